/-
  The walk of laws.FnSlotTables: at every input it returns true and writes nothing that was there.
-/
import Derived.Test.YtpedlofckbplmaaRows
import Derived.Test.YtpedlofckbplmaaP3
import Derived.Test.YtpedlofckbplmaaSlU
import Derived.Test.YtpedlofckbplmaaSlR
import Derived.Test.YtpedlofckbplmaaSlB
import Derived.Test.YtpedlofckbplmaaSlD
import Derived.Test.YtpedlofckbplmaaDrawA
import Derived.Test.YtpedlofckbplmaaDrawB
import Derived.WalkKit
import Derived.ProofKit
import Derived.OpenShut
import Derived.ShutString
import Derived.ChangeOld
import Derived.Below
namespace Go.Proofs.Ytpedlofckbplmaa.fnSlotTables
open Go.ChangeShapes Go.WideShapes Go.ChangeAt Go.RowKit
open Go.ChangeMaps (open_string shut_string)
set_option linter.unusedVariables false


/-- WHAT THE WALK IS TOLD OF A SLICE OF INTEGERS THAT CAME IN: it is nil; or it leads to a row of 'cap' cells, the numbers 'zs' (the first 'len' are its elements, the rest its spare room), each fitting its kind. -/
def IsRow (k : IntKind) (w : World) (a : Option Addr) (len cap : Nat) (zs : List Int) : Prop :=
  (a = none ∧ len = 0 ∧ cap = 0 ∧ zs = []) ∨
  ∃ x, a = some x ∧ len ≤ cap ∧ cap ≤ maxLen ∧ zs.length = cap ∧ (∀ i, i < zs.length → w.cell? (x.add i) = some (.int k (zs.getD i 0))) ∧ ∀ n ∈ zs, (Lit.int k n).wf = true

/-! ### STEP 1: THE WALK: the Go text returns true, AND WRITES NOTHING THAT WAS THERE: 'Below w.heap.size w w'' (Derived/Below.lean: '.refl', '.alloc', '.drew', '.setCell' at a new block, '.trans'). Open each 'IsRow' by 'rcases' AHEAD of 'go_enter'; part every test ahead of the walk. -/
set_option maxRecDepth 100000 in set_option maxHeartbeats 4000000 in set_option linter.unusedSimpArgs false in set_option linter.unnecessarySimpa false in
theorem walk (a0 : Option Addr) (len0 cap0 : Nat) (z0 : List Int) (w : World) (w0 : IsRow .u8 w a0 len0 cap0 z0) :
    Calls Try.prog 7 #[.slice a0 len0 cap0] w fun e w' => e = .returned (.bool true) ∧ Below w.heap.size w w' := by
  have hr := rdB_of_row w0
  clear w0
  generalize List.take len0 z0 = cs at hr
  have HR := Lib.hid hr; clear hr
  by_cases hbig : len0 ≤ 4096
  rotate_left
  · go_enter Try.func7, Try.ntmps7
    go_wp2_with fail
    refine (big_yes _ _ _ _ hbig).mono ?_
    rintro e w' ⟨rfl, rfl⟩
    go_wp2
    go_ret
    exact ⟨rfl, Below.refl _ _⟩
  go_enter Try.func7, Try.ntmps7
  go_wp2_with fail
  refine (big_no _ _ _ _ hbig).mono ?_
  rintro e w' ⟨rfl, rfl⟩
  have H : Hold w w [] := Hold.start
  go_wp2_with fail
  refine (drawSlotTableBytes_any _ _ _ cs _ HR.out (by omega)).mono ?_
  rintro e w1' ⟨v, t, rfl, oT, haT, bT⟩
  obtain ⟨pT, cT, rfl, oT, -⟩ := oT.get
  have HA := Lib.hid haT
  have htn : t.length ≤ 1048576 := by unfold anyS at haT; omega
  replace H : Hold w _ ([itsE 93 (Value.slice pT t.length cT) (t)] ++ (([] : List It))) := H.makeE oT bT
  clear oT bT haT
  obtain ⟨r0, kc0, hF⟩ : ∃ r0 kc0, slotTableBytes t = (r0, kc0) := ⟨_, _, rfl⟩
  have HF := Lib.hid hF
  have hlen : r0.length ≤ 1048576 := by have h := slotTableBytes_small t; rw [hF] at h; exact h
  clear hF
  go_wp2_with fail
  refine (slotBytesI_any _ _ _ t _ (Hold.rdE_ (E := 93) (t := t) (ao := pT) (n := t.length) (cap := cT) (L1 := ([] : List It)) (L2 := ([] : List It)) (by simpa only [List.append_assoc, List.nil_append] using H)) htn).mono ?_
  rintro e w2' m2
  rw [HF.out] at m2
  change Makes2 2 _ r0 kc0 _ _ at m2
  obtain ⟨p2, c2, rfl, o2, -, b2⟩ := m2.get
  replace H : Hold w _ ([ints 2 (Value.slice p2 r0.length c2) (r0)] ++ ([itsE 93 (Value.slice pT t.length cT) (t)] ++ (([] : List It)))) := H.makeI o2 b2
  clear o2 b2 m2
  go_wp2_with fail
  refine (slotBytesS_any _ _ _ t _ (Hold.rdE_ (E := 93) (t := t) (ao := pT) (n := t.length) (cap := cT) (L1 := [ints 2 (Value.slice p2 r0.length c2) (r0)] ++ (([] : List It))) (L2 := ([] : List It)) (by simpa only [List.append_assoc, List.nil_append] using H)) htn).mono ?_
  rintro e w3' m3
  rw [HF.out] at m3
  change Makes2 2 _ r0 kc0 _ _ at m3
  obtain ⟨p3, c3, rfl, o3, -, b3⟩ := m3.get
  replace H : Hold w _ ([ints 2 (Value.slice p3 r0.length c3) (r0)] ++ ([ints 2 (Value.slice p2 r0.length c2) (r0)] ++ ([itsE 93 (Value.slice pT t.length cT) (t)] ++ (([] : List It))))) := H.makeI o3 b3
  clear o3 b3 m3
  go_wp2_with fail
  refine (drawReadSlotTable_any _ _ _ cs _ (rdB_later HR.out H.below) (by omega)).mono ?_
  rintro e w4' ⟨v, ys, rfl, oY, hyl, bY⟩
  obtain ⟨pY, cY, rfl, oY, -⟩ := oY.get
  replace H : Hold w _ ([ints 2 (Value.slice pY ys.length cY) (ys)] ++ ([ints 2 (Value.slice p3 r0.length c3) (r0)] ++ ([ints 2 (Value.slice p2 r0.length c2) (r0)] ++ ([itsE 93 (Value.slice pT t.length cT) (t)] ++ (([] : List It)))))) := H.makeI oY bY
  clear oY bY
  obtain ⟨t1, n1, kc1, hG⟩ : ∃ t1 n1 kc1, readSlotTable ys = (t1, n1, kc1) := ⟨_, _, _, rfl⟩
  have HG := Lib.hid hG
  have hlen1 : t1.length ≤ 1048576 := by have h := readSlotTable_small ys; rw [hG] at h; exact h
  clear hG
  go_wp2_with fail
  refine (readSlotsI_any _ _ _ ys _ (Hold.rdI_ (E := 2) (xs := ys) (ao := pY) (n := ys.length) (cap := cY) (L1 := ([] : List It)) (L2 := [ints 2 (Value.slice p3 r0.length c3) (r0)] ++ ([ints 2 (Value.slice p2 r0.length c2) (r0)] ++ ([itsE 93 (Value.slice pT t.length cT) (t)] ++ (([] : List It))))) (by simpa only [List.append_assoc, List.nil_append] using H)) hyl (Own.cap (Hold.getI_ (E := 2) (xs := ys) (v := Value.slice pY ys.length cY) (L1 := ([] : List It)) (L2 := [ints 2 (Value.slice p3 r0.length c3) (r0)] ++ ([ints 2 (Value.slice p2 r0.length c2) (r0)] ++ ([itsE 93 (Value.slice pT t.length cT) (t)] ++ (([] : List It))))) (by simpa only [List.append_assoc, List.nil_append] using H))).1 (Own.cap (Hold.getI_ (E := 2) (xs := ys) (v := Value.slice pY ys.length cY) (L1 := ([] : List It)) (L2 := [ints 2 (Value.slice p3 r0.length c3) (r0)] ++ ([ints 2 (Value.slice p2 r0.length c2) (r0)] ++ ([itsE 93 (Value.slice pT t.length cT) (t)] ++ (([] : List It))))) (by simpa only [List.append_assoc, List.nil_append] using H))).2 (fun ad e => ((Hold.getI_ (E := 2) (xs := ys) (v := Value.slice pY ys.length cY) (L1 := ([] : List It)) (L2 := [ints 2 (Value.slice p3 r0.length c3) (r0)] ++ ([ints 2 (Value.slice p2 r0.length c2) (r0)] ++ ([itsE 93 (Value.slice pT t.length cT) (t)] ++ (([] : List It))))) (by simpa only [List.append_assoc, List.nil_append] using H)).block _ (by rw [e]; rfl)).2)).mono ?_
  rintro e w5' m5
  rw [HG.out] at m5
  change MakesE3 93 _ t1 n1 kc1 _ _ at m5
  obtain ⟨p5, c5, rfl, o5, -, b5⟩ := m5.get
  replace H : Hold w _ ([itsE 93 (Value.slice p5 t1.length c5) (t1)] ++ ([ints 2 (Value.slice pY ys.length cY) (ys)] ++ ([ints 2 (Value.slice p3 r0.length c3) (r0)] ++ ([ints 2 (Value.slice p2 r0.length c2) (r0)] ++ ([itsE 93 (Value.slice pT t.length cT) (t)] ++ (([] : List It))))))) := H.makeE o5 b5
  clear o5 b5 m5
  go_wp2_with fail
  refine (readSlotsS_any _ _ _ ys _ (Hold.rdI_ (E := 2) (xs := ys) (ao := pY) (n := ys.length) (cap := cY) (L1 := [itsE 93 (Value.slice p5 t1.length c5) (t1)] ++ (([] : List It))) (L2 := [ints 2 (Value.slice p3 r0.length c3) (r0)] ++ ([ints 2 (Value.slice p2 r0.length c2) (r0)] ++ ([itsE 93 (Value.slice pT t.length cT) (t)] ++ (([] : List It))))) (by simpa only [List.append_assoc, List.nil_append] using H)) hyl (Own.cap (Hold.getI_ (E := 2) (xs := ys) (v := Value.slice pY ys.length cY) (L1 := [itsE 93 (Value.slice p5 t1.length c5) (t1)] ++ (([] : List It))) (L2 := [ints 2 (Value.slice p3 r0.length c3) (r0)] ++ ([ints 2 (Value.slice p2 r0.length c2) (r0)] ++ ([itsE 93 (Value.slice pT t.length cT) (t)] ++ (([] : List It))))) (by simpa only [List.append_assoc, List.nil_append] using H))).1 (Own.cap (Hold.getI_ (E := 2) (xs := ys) (v := Value.slice pY ys.length cY) (L1 := [itsE 93 (Value.slice p5 t1.length c5) (t1)] ++ (([] : List It))) (L2 := [ints 2 (Value.slice p3 r0.length c3) (r0)] ++ ([ints 2 (Value.slice p2 r0.length c2) (r0)] ++ ([itsE 93 (Value.slice pT t.length cT) (t)] ++ (([] : List It))))) (by simpa only [List.append_assoc, List.nil_append] using H))).2).mono ?_
  rintro e w6' m6
  rw [HG.out] at m6
  change MakesE3 93 _ t1 n1 kc1 _ _ at m6
  obtain ⟨p6, c6, rfl, o6, -, b6⟩ := m6.get
  replace H : Hold w _ ([itsE 93 (Value.slice p6 t1.length c6) (t1)] ++ ([itsE 93 (Value.slice p5 t1.length c5) (t1)] ++ ([ints 2 (Value.slice pY ys.length cY) (ys)] ++ ([ints 2 (Value.slice p3 r0.length c3) (r0)] ++ ([ints 2 (Value.slice p2 r0.length c2) (r0)] ++ ([itsE 93 (Value.slice pT t.length cT) (t)] ++ (([] : List It)))))))) := H.makeE o6 b6
  clear o6 b6 m6
  have hn0 : (kc0 != kc0) = false := bne_self_eq_false _
  have hn1 : (kc1 != kc1) = false := bne_self_eq_false _
  have hn2 : (n1 != n1) = false := bne_self_eq_false _
  have hnt : (isSls t != isSls t) = false := bne_self_eq_false _
  go_wp2_with fail
  refine (like_yes _ _ _ _ _ _ _ _ (Hold.rdI_ (E := 2) (xs := r0) (ao := p2) (n := r0.length) (cap := c2) (L1 := [itsE 93 (Value.slice p6 t1.length c6) (t1)] ++ ([itsE 93 (Value.slice p5 t1.length c5) (t1)] ++ ([ints 2 (Value.slice pY ys.length cY) (ys)] ++ ([ints 2 (Value.slice p3 r0.length c3) (r0)] ++ (([] : List It)))))) (L2 := [itsE 93 (Value.slice pT t.length cT) (t)] ++ (([] : List It))) (by simpa only [List.append_assoc, List.nil_append] using H)) (Hold.rdI_ (E := 2) (xs := r0) (ao := p3) (n := r0.length) (cap := c3) (L1 := [itsE 93 (Value.slice p6 t1.length c6) (t1)] ++ ([itsE 93 (Value.slice p5 t1.length c5) (t1)] ++ ([ints 2 (Value.slice pY ys.length cY) (ys)] ++ (([] : List It))))) (L2 := [ints 2 (Value.slice p2 r0.length c2) (r0)] ++ ([itsE 93 (Value.slice pT t.length cT) (t)] ++ (([] : List It)))) (by simpa only [List.append_assoc, List.nil_append] using H)) (by omega)).mono ?_
  rintro e w7' ⟨rfl, b7⟩
  replace H := H.still b7
  clear b7
  go_wp2_with fail
  refine (likeSlots_yes _ _ _ _ _ _ _ (Hold.rdE_ (E := 93) (t := t1) (ao := p5) (n := t1.length) (cap := c5) (L1 := [itsE 93 (Value.slice p6 t1.length c6) (t1)] ++ (([] : List It))) (L2 := [ints 2 (Value.slice pY ys.length cY) (ys)] ++ ([ints 2 (Value.slice p3 r0.length c3) (r0)] ++ ([ints 2 (Value.slice p2 r0.length c2) (r0)] ++ ([itsE 93 (Value.slice pT t.length cT) (t)] ++ (([] : List It)))))) (by simpa only [List.append_assoc, List.nil_append] using H)) (Hold.rdE_ (E := 93) (t := t1) (ao := p6) (n := t1.length) (cap := c6) (L1 := ([] : List It)) (L2 := [itsE 93 (Value.slice p5 t1.length c5) (t1)] ++ ([ints 2 (Value.slice pY ys.length cY) (ys)] ++ ([ints 2 (Value.slice p3 r0.length c3) (r0)] ++ ([ints 2 (Value.slice p2 r0.length c2) (r0)] ++ ([itsE 93 (Value.slice pT t.length cT) (t)] ++ (([] : List It))))))) (by simpa only [List.append_assoc, List.nil_append] using H)) (by omega) (OwnE.cap (Hold.getE_ (E := 93) (t := t1) (v := Value.slice p5 t1.length c5) (L1 := [itsE 93 (Value.slice p6 t1.length c6) (t1)] ++ (([] : List It))) (L2 := [ints 2 (Value.slice pY ys.length cY) (ys)] ++ ([ints 2 (Value.slice p3 r0.length c3) (r0)] ++ ([ints 2 (Value.slice p2 r0.length c2) (r0)] ++ ([itsE 93 (Value.slice pT t.length cT) (t)] ++ (([] : List It)))))) (by simpa only [List.append_assoc, List.nil_append] using H))).1 (OwnE.cap (Hold.getE_ (E := 93) (t := t1) (v := Value.slice p6 t1.length c6) (L1 := ([] : List It)) (L2 := [itsE 93 (Value.slice p5 t1.length c5) (t1)] ++ ([ints 2 (Value.slice pY ys.length cY) (ys)] ++ ([ints 2 (Value.slice p3 r0.length c3) (r0)] ++ ([ints 2 (Value.slice p2 r0.length c2) (r0)] ++ ([itsE 93 (Value.slice pT t.length cT) (t)] ++ (([] : List It))))))) (by simpa only [List.append_assoc, List.nil_append] using H))).1).mono ?_
  rintro e w8' ⟨rfl, b8⟩
  replace H := H.still b8
  clear b8
  go_wp2_with fail
  refine (isSlsI_any _ _ _ t _ (Hold.rdE_ (E := 93) (t := t) (ao := pT) (n := t.length) (cap := cT) (L1 := [itsE 93 (Value.slice p6 t1.length c6) (t1)] ++ ([itsE 93 (Value.slice p5 t1.length c5) (t1)] ++ ([ints 2 (Value.slice pY ys.length cY) (ys)] ++ ([ints 2 (Value.slice p3 r0.length c3) (r0)] ++ ([ints 2 (Value.slice p2 r0.length c2) (r0)] ++ (([] : List It))))))) (L2 := ([] : List It)) (by simpa only [List.append_assoc, List.nil_append] using H)) htn).mono ?_
  rintro e w9' ⟨rfl, b9⟩
  replace H := H.still b9
  clear b9
  go_wp2_with fail
  refine (isSlsS_any _ _ _ t _ (Hold.rdE_ (E := 93) (t := t) (ao := pT) (n := t.length) (cap := cT) (L1 := [itsE 93 (Value.slice p6 t1.length c6) (t1)] ++ ([itsE 93 (Value.slice p5 t1.length c5) (t1)] ++ ([ints 2 (Value.slice pY ys.length cY) (ys)] ++ ([ints 2 (Value.slice p3 r0.length c3) (r0)] ++ ([ints 2 (Value.slice p2 r0.length c2) (r0)] ++ (([] : List It))))))) (L2 := ([] : List It)) (by simpa only [List.append_assoc, List.nil_append] using H)) htn).mono ?_
  rintro e w10' ⟨rfl, b10⟩
  replace H := H.still b10
  clear b10
  clear hn0 hn1 hn2
  by_cases hone : kc1 = 0
  · subst hone
    obtain ⟨a, hna, hay, hag⟩ := read_slots_again HG.out
    subst hna
    have HAG := Lib.hid hag; clear hag
    have hac : (a : Int) ≤ (ys.length : Int) := by omega
    have ha0 : (0 : Int) ≤ (a : Int) := by omega
    have hcy := (Own.cap (Hold.getI_ (E := 2) (xs := ys) (v := Value.slice pY ys.length cY) (L1 := [itsE 93 (Value.slice p6 t1.length c6) (t1)] ++ ([itsE 93 (Value.slice p5 t1.length c5) (t1)] ++ (([] : List It)))) (L2 := [ints 2 (Value.slice p3 r0.length c3) (r0)] ++ ([ints 2 (Value.slice p2 r0.length c2) (r0)] ++ ([itsE 93 (Value.slice pT t.length cT) (t)] ++ (([] : List It))))) (by simpa only [List.append_assoc, List.nil_append] using H))).1
    have hac2 : (a : Int) ≤ (cY : Int) := by omega
    go_wp2_with fail
    refine (slotBytesI_any _ _ _ t1 _ (Hold.rdE_ (E := 93) (t := t1) (ao := p5) (n := t1.length) (cap := c5) (L1 := [itsE 93 (Value.slice p6 t1.length c6) (t1)] ++ (([] : List It))) (L2 := [ints 2 (Value.slice pY ys.length cY) (ys)] ++ ([ints 2 (Value.slice p3 r0.length c3) (r0)] ++ ([ints 2 (Value.slice p2 r0.length c2) (r0)] ++ ([itsE 93 (Value.slice pT t.length cT) (t)] ++ (([] : List It)))))) (by simpa only [List.append_assoc, List.nil_append] using H)) hlen1).mono ?_
    rintro e w11' m11
    rw [HAG.out] at m11
    change Makes2 2 _ (ys.take a) 0 _ _ at m11
    have hyta : (ys.take a).length = a := by rw [List.length_take]; omega
    obtain ⟨p11, c11, rfl, o11, -, b11⟩ := m11.get
    replace H : Hold w _ ([ints 2 (Value.slice p11 (ys.take a).length c11) ((ys.take a))] ++ ([itsE 93 (Value.slice p6 t1.length c6) (t1)] ++ ([itsE 93 (Value.slice p5 t1.length c5) (t1)] ++ ([ints 2 (Value.slice pY ys.length cY) (ys)] ++ ([ints 2 (Value.slice p3 r0.length c3) (r0)] ++ ([ints 2 (Value.slice p2 r0.length c2) (r0)] ++ ([itsE 93 (Value.slice pT t.length cT) (t)] ++ (([] : List It))))))))) := H.makeI o11 b11
    clear o11 b11 m11
    rw [hyta]
    have hrag := (Hold.rdI_ (E := 2) (xs := (ys.take a)) (ao := p11) (n := (ys.take a).length) (cap := c11) (L1 := ([] : List It)) (L2 := [itsE 93 (Value.slice p6 t1.length c6) (t1)] ++ ([itsE 93 (Value.slice p5 t1.length c5) (t1)] ++ ([ints 2 (Value.slice pY ys.length cY) (ys)] ++ ([ints 2 (Value.slice p3 r0.length c3) (r0)] ++ ([ints 2 (Value.slice p2 r0.length c2) (r0)] ++ ([itsE 93 (Value.slice pT t.length cT) (t)] ++ (([] : List It)))))))) (by simpa only [List.append_assoc, List.nil_append] using H))
    rw [hyta] at hrag
    have HRAG := Lib.hid hrag; clear hrag
    go_wp2_with fail
    refine (like_yes _ _ _ _ _ _ _ _ HRAG.out (Rd.front (Hold.rdI_ (E := 2) (xs := ys) (ao := pY) (n := ys.length) (cap := cY) (L1 := [ints 2 (Value.slice p11 (ys.take a).length c11) ((ys.take a))] ++ ([itsE 93 (Value.slice p6 t1.length c6) (t1)] ++ ([itsE 93 (Value.slice p5 t1.length c5) (t1)] ++ (([] : List It))))) (L2 := [ints 2 (Value.slice p3 r0.length c3) (r0)] ++ ([ints 2 (Value.slice p2 r0.length c2) (r0)] ++ ([itsE 93 (Value.slice pT t.length cT) (t)] ++ (([] : List It))))) (by simpa only [List.append_assoc, List.nil_append] using H)) hay) (by omega)).mono ?_
    rintro e w12' ⟨rfl, b12⟩
    replace H := H.still b12
    clear b12 HRAG
    by_cases hbad : kc0 = 0
    rotate_left
    · have t1' : (kc0 != 0) = true := by simp [hbad]
      clear hbad
      go_wp2_with fail
      go_ret
      exact ⟨rfl, H.below⟩
    subst hbad
    obtain ⟨hit, hr0⟩ := bytes_slots HF.out
    have hround : readSlotTable (r0 ++ [7]) = (t, (r0.length : Int), 0) := by rw [hr0]; exact slots_round hit [7] (slots_two hit [7] (by intro z hz; simp at hz; omega) (by simp))
    have HRO := Lib.hid hround
    have hr900 : r0.length ≤ 900 := by rw [hr0, slotBytes_len]; have := isSls_le hit; omega
    have heq : ((r0.length : Int) == (r0.length : Int)) = true := by simp
    clear hit hr0 hround
    go_wp2_with (first
      | (at_builtin; refine append_list _ rfl (.tmp 100) (.tmp 101) rfl w12'.heap.size Try.underlying26 info64 _ [] rfl (Own.of_alloc_nil (Nat.le_refl _)) _ _ _ r0 rfl ((Hold.rdI_ (E := 2) (xs := r0) (ao := p2) (n := r0.length) (cap := c2) (L1 := [ints 2 (Value.slice p11 (ys.take a).length c11) ((ys.take a))] ++ ([itsE 93 (Value.slice p6 t1.length c6) (t1)] ++ ([itsE 93 (Value.slice p5 t1.length c5) (t1)] ++ ([ints 2 (Value.slice pY ys.length cY) (ys)] ++ ([ints 2 (Value.slice p3 r0.length c3) (r0)] ++ (([] : List It))))))) (L2 := [itsE 93 (Value.slice pT t.length cT) (t)] ++ (([] : List It))) (by simpa only [List.append_assoc, List.nil_append] using H)).below ((Below.refl _ _).alloc (Nat.le_refl _) _)) (by simp; omega) (by simp) ?_; intro vA wA oA bA; have hbA : Below w12'.heap.size w12' wA := ((Below.refl _ _).alloc (Nat.le_refl _) _).trans bA)
      | (at_builtin; refine append_list _ rfl (.tmp 102) (.tmp 103) rfl w12'.heap.size Try.underlying26 info64 _ ([] ++ r0) rfl (oA.below ((Below.refl _ _).alloc (Nat.le_refl _) _)) _ _ _ [7] rfl (rd_one _ _ _) (by simp; omega) (by have := hbA.size; simp; omega) ?_; intro vB wB oB bB))
    have hbB : Below w12'.heap.size w12' wB := (hbA.alloc hbA.size _).trans bB
    rw [List.nil_append] at oB
    obtain ⟨pB, cB, hvB, oB, -⟩ := oB.get
    subst hvB
    replace H : Hold w _ ([ints 2 (Value.slice pB (r0 ++ [7]).length cB) ((r0 ++ [7]))] ++ ([ints 2 (Value.slice p11 (ys.take a).length c11) ((ys.take a))] ++ ([itsE 93 (Value.slice p6 t1.length c6) (t1)] ++ ([itsE 93 (Value.slice p5 t1.length c5) (t1)] ++ ([ints 2 (Value.slice pY ys.length cY) (ys)] ++ ([ints 2 (Value.slice p3 r0.length c3) (r0)] ++ ([ints 2 (Value.slice p2 r0.length c2) (r0)] ++ ([itsE 93 (Value.slice pT t.length cT) (t)] ++ (([] : List It)))))))))) := H.makeI oB hbB
    clear oA bA hbA oB bB hbB
    have hXl2 : (r0 ++ [7]).length ≤ 1048576 := by rw [List.length_append]; simp; omega
    generalize r0 ++ [7] = X at H HRO hXl2 ⊢
    refine (readSlotsI_any _ _ _ X _ (Hold.rdI_ (E := 2) (xs := X) (ao := pB) (n := X.length) (cap := cB) (L1 := ([] : List It)) (L2 := [ints 2 (Value.slice p11 (ys.take a).length c11) ((ys.take a))] ++ ([itsE 93 (Value.slice p6 t1.length c6) (t1)] ++ ([itsE 93 (Value.slice p5 t1.length c5) (t1)] ++ ([ints 2 (Value.slice pY ys.length cY) (ys)] ++ ([ints 2 (Value.slice p3 r0.length c3) (r0)] ++ ([ints 2 (Value.slice p2 r0.length c2) (r0)] ++ ([itsE 93 (Value.slice pT t.length cT) (t)] ++ (([] : List It))))))))) (by simpa only [List.append_assoc, List.nil_append] using H)) hXl2 (Own.cap (Hold.getI_ (E := 2) (xs := X) (v := Value.slice pB X.length cB) (L1 := ([] : List It)) (L2 := [ints 2 (Value.slice p11 (ys.take a).length c11) ((ys.take a))] ++ ([itsE 93 (Value.slice p6 t1.length c6) (t1)] ++ ([itsE 93 (Value.slice p5 t1.length c5) (t1)] ++ ([ints 2 (Value.slice pY ys.length cY) (ys)] ++ ([ints 2 (Value.slice p3 r0.length c3) (r0)] ++ ([ints 2 (Value.slice p2 r0.length c2) (r0)] ++ ([itsE 93 (Value.slice pT t.length cT) (t)] ++ (([] : List It))))))))) (by simpa only [List.append_assoc, List.nil_append] using H))).1 (Own.cap (Hold.getI_ (E := 2) (xs := X) (v := Value.slice pB X.length cB) (L1 := ([] : List It)) (L2 := [ints 2 (Value.slice p11 (ys.take a).length c11) ((ys.take a))] ++ ([itsE 93 (Value.slice p6 t1.length c6) (t1)] ++ ([itsE 93 (Value.slice p5 t1.length c5) (t1)] ++ ([ints 2 (Value.slice pY ys.length cY) (ys)] ++ ([ints 2 (Value.slice p3 r0.length c3) (r0)] ++ ([ints 2 (Value.slice p2 r0.length c2) (r0)] ++ ([itsE 93 (Value.slice pT t.length cT) (t)] ++ (([] : List It))))))))) (by simpa only [List.append_assoc, List.nil_append] using H))).2 (fun ad e => ((Hold.getI_ (E := 2) (xs := X) (v := Value.slice pB X.length cB) (L1 := ([] : List It)) (L2 := [ints 2 (Value.slice p11 (ys.take a).length c11) ((ys.take a))] ++ ([itsE 93 (Value.slice p6 t1.length c6) (t1)] ++ ([itsE 93 (Value.slice p5 t1.length c5) (t1)] ++ ([ints 2 (Value.slice pY ys.length cY) (ys)] ++ ([ints 2 (Value.slice p3 r0.length c3) (r0)] ++ ([ints 2 (Value.slice p2 r0.length c2) (r0)] ++ ([itsE 93 (Value.slice pT t.length cT) (t)] ++ (([] : List It))))))))) (by simpa only [List.append_assoc, List.nil_append] using H)).block _ (by rw [e]; rfl)).2)).mono ?_
    rintro e w13' m13
    rw [HRO.out] at m13
    change MakesE3 93 _ t (r0.length : Int) 0 _ _ at m13
    obtain ⟨p13, c13, rfl, o13, -, b13⟩ := m13.get
    replace H : Hold w _ ([itsE 93 (Value.slice p13 t.length c13) (t)] ++ ([ints 2 (Value.slice pB X.length cB) (X)] ++ ([ints 2 (Value.slice p11 (ys.take a).length c11) ((ys.take a))] ++ ([itsE 93 (Value.slice p6 t1.length c6) (t1)] ++ ([itsE 93 (Value.slice p5 t1.length c5) (t1)] ++ ([ints 2 (Value.slice pY ys.length cY) (ys)] ++ ([ints 2 (Value.slice p3 r0.length c3) (r0)] ++ ([ints 2 (Value.slice p2 r0.length c2) (r0)] ++ ([itsE 93 (Value.slice pT t.length cT) (t)] ++ (([] : List It))))))))))) := H.makeE o13 b13
    clear o13 b13 m13
    go_wp2_with fail
    refine (likeSlots_yes _ _ _ _ _ _ _ (Hold.rdE_ (E := 93) (t := t) (ao := p13) (n := t.length) (cap := c13) (L1 := ([] : List It)) (L2 := [ints 2 (Value.slice pB X.length cB) (X)] ++ ([ints 2 (Value.slice p11 (ys.take a).length c11) ((ys.take a))] ++ ([itsE 93 (Value.slice p6 t1.length c6) (t1)] ++ ([itsE 93 (Value.slice p5 t1.length c5) (t1)] ++ ([ints 2 (Value.slice pY ys.length cY) (ys)] ++ ([ints 2 (Value.slice p3 r0.length c3) (r0)] ++ ([ints 2 (Value.slice p2 r0.length c2) (r0)] ++ ([itsE 93 (Value.slice pT t.length cT) (t)] ++ (([] : List It)))))))))) (by simpa only [List.append_assoc, List.nil_append] using H)) (Hold.rdE_ (E := 93) (t := t) (ao := pT) (n := t.length) (cap := cT) (L1 := [itsE 93 (Value.slice p13 t.length c13) (t)] ++ ([ints 2 (Value.slice pB X.length cB) (X)] ++ ([ints 2 (Value.slice p11 (ys.take a).length c11) ((ys.take a))] ++ ([itsE 93 (Value.slice p6 t1.length c6) (t1)] ++ ([itsE 93 (Value.slice p5 t1.length c5) (t1)] ++ ([ints 2 (Value.slice pY ys.length cY) (ys)] ++ ([ints 2 (Value.slice p3 r0.length c3) (r0)] ++ ([ints 2 (Value.slice p2 r0.length c2) (r0)] ++ (([] : List It)))))))))) (L2 := ([] : List It)) (by simpa only [List.append_assoc, List.nil_append] using H)) (by omega) (OwnE.cap (Hold.getE_ (E := 93) (t := t) (v := Value.slice p13 t.length c13) (L1 := ([] : List It)) (L2 := [ints 2 (Value.slice pB X.length cB) (X)] ++ ([ints 2 (Value.slice p11 (ys.take a).length c11) ((ys.take a))] ++ ([itsE 93 (Value.slice p6 t1.length c6) (t1)] ++ ([itsE 93 (Value.slice p5 t1.length c5) (t1)] ++ ([ints 2 (Value.slice pY ys.length cY) (ys)] ++ ([ints 2 (Value.slice p3 r0.length c3) (r0)] ++ ([ints 2 (Value.slice p2 r0.length c2) (r0)] ++ ([itsE 93 (Value.slice pT t.length cT) (t)] ++ (([] : List It)))))))))) (by simpa only [List.append_assoc, List.nil_append] using H))).1 (OwnE.cap (Hold.getE_ (E := 93) (t := t) (v := Value.slice pT t.length cT) (L1 := [itsE 93 (Value.slice p13 t.length c13) (t)] ++ ([ints 2 (Value.slice pB X.length cB) (X)] ++ ([ints 2 (Value.slice p11 (ys.take a).length c11) ((ys.take a))] ++ ([itsE 93 (Value.slice p6 t1.length c6) (t1)] ++ ([itsE 93 (Value.slice p5 t1.length c5) (t1)] ++ ([ints 2 (Value.slice pY ys.length cY) (ys)] ++ ([ints 2 (Value.slice p3 r0.length c3) (r0)] ++ ([ints 2 (Value.slice p2 r0.length c2) (r0)] ++ (([] : List It)))))))))) (L2 := ([] : List It)) (by simpa only [List.append_assoc, List.nil_append] using H))).1).mono ?_
    rintro e w14' ⟨rfl, b14⟩
    replace H := H.still b14
    clear b14
    go_wp2_with fail
    go_ret
    exact ⟨rfl, H.below⟩
  · skip
    have t1n : (kc1 == 0) = false := by simp [hone]
    clear hone
    by_cases hbad : kc0 = 0
    rotate_left
    · have t1' : (kc0 != 0) = true := by simp [hbad]
      clear hbad
      go_wp2_with fail
      go_ret
      exact ⟨rfl, H.below⟩
    subst hbad
    obtain ⟨hit, hr0⟩ := bytes_slots HF.out
    have hround : readSlotTable (r0 ++ [7]) = (t, (r0.length : Int), 0) := by rw [hr0]; exact slots_round hit [7] (slots_two hit [7] (by intro z hz; simp at hz; omega) (by simp))
    have HRO := Lib.hid hround
    have hr900 : r0.length ≤ 900 := by rw [hr0, slotBytes_len]; have := isSls_le hit; omega
    have heq : ((r0.length : Int) == (r0.length : Int)) = true := by simp
    clear hit hr0 hround
    go_wp2_with (first
      | (at_builtin; refine append_list _ rfl (.tmp 100) (.tmp 101) rfl w10'.heap.size Try.underlying26 info64 _ [] rfl (Own.of_alloc_nil (Nat.le_refl _)) _ _ _ r0 rfl ((Hold.rdI_ (E := 2) (xs := r0) (ao := p2) (n := r0.length) (cap := c2) (L1 := [itsE 93 (Value.slice p6 t1.length c6) (t1)] ++ ([itsE 93 (Value.slice p5 t1.length c5) (t1)] ++ ([ints 2 (Value.slice pY ys.length cY) (ys)] ++ ([ints 2 (Value.slice p3 r0.length c3) (r0)] ++ (([] : List It)))))) (L2 := [itsE 93 (Value.slice pT t.length cT) (t)] ++ (([] : List It))) (by simpa only [List.append_assoc, List.nil_append] using H)).below ((Below.refl _ _).alloc (Nat.le_refl _) _)) (by simp; omega) (by simp) ?_; intro vA wA oA bA; have hbA : Below w10'.heap.size w10' wA := ((Below.refl _ _).alloc (Nat.le_refl _) _).trans bA)
      | (at_builtin; refine append_list _ rfl (.tmp 102) (.tmp 103) rfl w10'.heap.size Try.underlying26 info64 _ ([] ++ r0) rfl (oA.below ((Below.refl _ _).alloc (Nat.le_refl _) _)) _ _ _ [7] rfl (rd_one _ _ _) (by simp; omega) (by have := hbA.size; simp; omega) ?_; intro vB wB oB bB))
    have hbB : Below w10'.heap.size w10' wB := (hbA.alloc hbA.size _).trans bB
    rw [List.nil_append] at oB
    obtain ⟨pB, cB, hvB, oB, -⟩ := oB.get
    subst hvB
    replace H : Hold w _ ([ints 2 (Value.slice pB (r0 ++ [7]).length cB) ((r0 ++ [7]))] ++ ([itsE 93 (Value.slice p6 t1.length c6) (t1)] ++ ([itsE 93 (Value.slice p5 t1.length c5) (t1)] ++ ([ints 2 (Value.slice pY ys.length cY) (ys)] ++ ([ints 2 (Value.slice p3 r0.length c3) (r0)] ++ ([ints 2 (Value.slice p2 r0.length c2) (r0)] ++ ([itsE 93 (Value.slice pT t.length cT) (t)] ++ (([] : List It))))))))) := H.makeI oB hbB
    clear oA bA hbA oB bB hbB
    have hXl2 : (r0 ++ [7]).length ≤ 1048576 := by rw [List.length_append]; simp; omega
    generalize r0 ++ [7] = X at H HRO hXl2 ⊢
    refine (readSlotsI_any _ _ _ X _ (Hold.rdI_ (E := 2) (xs := X) (ao := pB) (n := X.length) (cap := cB) (L1 := ([] : List It)) (L2 := [itsE 93 (Value.slice p6 t1.length c6) (t1)] ++ ([itsE 93 (Value.slice p5 t1.length c5) (t1)] ++ ([ints 2 (Value.slice pY ys.length cY) (ys)] ++ ([ints 2 (Value.slice p3 r0.length c3) (r0)] ++ ([ints 2 (Value.slice p2 r0.length c2) (r0)] ++ ([itsE 93 (Value.slice pT t.length cT) (t)] ++ (([] : List It)))))))) (by simpa only [List.append_assoc, List.nil_append] using H)) hXl2 (Own.cap (Hold.getI_ (E := 2) (xs := X) (v := Value.slice pB X.length cB) (L1 := ([] : List It)) (L2 := [itsE 93 (Value.slice p6 t1.length c6) (t1)] ++ ([itsE 93 (Value.slice p5 t1.length c5) (t1)] ++ ([ints 2 (Value.slice pY ys.length cY) (ys)] ++ ([ints 2 (Value.slice p3 r0.length c3) (r0)] ++ ([ints 2 (Value.slice p2 r0.length c2) (r0)] ++ ([itsE 93 (Value.slice pT t.length cT) (t)] ++ (([] : List It)))))))) (by simpa only [List.append_assoc, List.nil_append] using H))).1 (Own.cap (Hold.getI_ (E := 2) (xs := X) (v := Value.slice pB X.length cB) (L1 := ([] : List It)) (L2 := [itsE 93 (Value.slice p6 t1.length c6) (t1)] ++ ([itsE 93 (Value.slice p5 t1.length c5) (t1)] ++ ([ints 2 (Value.slice pY ys.length cY) (ys)] ++ ([ints 2 (Value.slice p3 r0.length c3) (r0)] ++ ([ints 2 (Value.slice p2 r0.length c2) (r0)] ++ ([itsE 93 (Value.slice pT t.length cT) (t)] ++ (([] : List It)))))))) (by simpa only [List.append_assoc, List.nil_append] using H))).2 (fun ad e => ((Hold.getI_ (E := 2) (xs := X) (v := Value.slice pB X.length cB) (L1 := ([] : List It)) (L2 := [itsE 93 (Value.slice p6 t1.length c6) (t1)] ++ ([itsE 93 (Value.slice p5 t1.length c5) (t1)] ++ ([ints 2 (Value.slice pY ys.length cY) (ys)] ++ ([ints 2 (Value.slice p3 r0.length c3) (r0)] ++ ([ints 2 (Value.slice p2 r0.length c2) (r0)] ++ ([itsE 93 (Value.slice pT t.length cT) (t)] ++ (([] : List It)))))))) (by simpa only [List.append_assoc, List.nil_append] using H)).block _ (by rw [e]; rfl)).2)).mono ?_
    rintro e w11' m11
    rw [HRO.out] at m11
    change MakesE3 93 _ t (r0.length : Int) 0 _ _ at m11
    obtain ⟨p11, c11, rfl, o11, -, b11⟩ := m11.get
    replace H : Hold w _ ([itsE 93 (Value.slice p11 t.length c11) (t)] ++ ([ints 2 (Value.slice pB X.length cB) (X)] ++ ([itsE 93 (Value.slice p6 t1.length c6) (t1)] ++ ([itsE 93 (Value.slice p5 t1.length c5) (t1)] ++ ([ints 2 (Value.slice pY ys.length cY) (ys)] ++ ([ints 2 (Value.slice p3 r0.length c3) (r0)] ++ ([ints 2 (Value.slice p2 r0.length c2) (r0)] ++ ([itsE 93 (Value.slice pT t.length cT) (t)] ++ (([] : List It)))))))))) := H.makeE o11 b11
    clear o11 b11 m11
    go_wp2_with fail
    refine (likeSlots_yes _ _ _ _ _ _ _ (Hold.rdE_ (E := 93) (t := t) (ao := p11) (n := t.length) (cap := c11) (L1 := ([] : List It)) (L2 := [ints 2 (Value.slice pB X.length cB) (X)] ++ ([itsE 93 (Value.slice p6 t1.length c6) (t1)] ++ ([itsE 93 (Value.slice p5 t1.length c5) (t1)] ++ ([ints 2 (Value.slice pY ys.length cY) (ys)] ++ ([ints 2 (Value.slice p3 r0.length c3) (r0)] ++ ([ints 2 (Value.slice p2 r0.length c2) (r0)] ++ ([itsE 93 (Value.slice pT t.length cT) (t)] ++ (([] : List It))))))))) (by simpa only [List.append_assoc, List.nil_append] using H)) (Hold.rdE_ (E := 93) (t := t) (ao := pT) (n := t.length) (cap := cT) (L1 := [itsE 93 (Value.slice p11 t.length c11) (t)] ++ ([ints 2 (Value.slice pB X.length cB) (X)] ++ ([itsE 93 (Value.slice p6 t1.length c6) (t1)] ++ ([itsE 93 (Value.slice p5 t1.length c5) (t1)] ++ ([ints 2 (Value.slice pY ys.length cY) (ys)] ++ ([ints 2 (Value.slice p3 r0.length c3) (r0)] ++ ([ints 2 (Value.slice p2 r0.length c2) (r0)] ++ (([] : List It))))))))) (L2 := ([] : List It)) (by simpa only [List.append_assoc, List.nil_append] using H)) (by omega) (OwnE.cap (Hold.getE_ (E := 93) (t := t) (v := Value.slice p11 t.length c11) (L1 := ([] : List It)) (L2 := [ints 2 (Value.slice pB X.length cB) (X)] ++ ([itsE 93 (Value.slice p6 t1.length c6) (t1)] ++ ([itsE 93 (Value.slice p5 t1.length c5) (t1)] ++ ([ints 2 (Value.slice pY ys.length cY) (ys)] ++ ([ints 2 (Value.slice p3 r0.length c3) (r0)] ++ ([ints 2 (Value.slice p2 r0.length c2) (r0)] ++ ([itsE 93 (Value.slice pT t.length cT) (t)] ++ (([] : List It))))))))) (by simpa only [List.append_assoc, List.nil_append] using H))).1 (OwnE.cap (Hold.getE_ (E := 93) (t := t) (v := Value.slice pT t.length cT) (L1 := [itsE 93 (Value.slice p11 t.length c11) (t)] ++ ([ints 2 (Value.slice pB X.length cB) (X)] ++ ([itsE 93 (Value.slice p6 t1.length c6) (t1)] ++ ([itsE 93 (Value.slice p5 t1.length c5) (t1)] ++ ([ints 2 (Value.slice pY ys.length cY) (ys)] ++ ([ints 2 (Value.slice p3 r0.length c3) (r0)] ++ ([ints 2 (Value.slice p2 r0.length c2) (r0)] ++ (([] : List It))))))))) (L2 := ([] : List It)) (by simpa only [List.append_assoc, List.nil_append] using H))).1).mono ?_
    rintro e w12' ⟨rfl, b12⟩
    replace H := H.still b12
    clear b12
    go_wp2_with fail
    go_ret
    exact ⟨rfl, H.below⟩


end Go.Proofs.Ytpedlofckbplmaa.fnSlotTables
