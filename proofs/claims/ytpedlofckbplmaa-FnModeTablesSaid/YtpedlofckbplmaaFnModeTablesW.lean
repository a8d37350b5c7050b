/-
  The walk of laws.FnModeTables: at every input it returns true and writes nothing that was there.
-/
import Derived.Test.YtpedlofckbplmaaRows
import Derived.Test.YtpedlofckbplmaaP3
import Derived.Test.YtpedlofckbplmaaR2
import Derived.Test.YtpedlofckbplmaaRB
import Derived.Test.YtpedlofckbplmaaMl
import Derived.Test.YtpedlofckbplmaaDrawA
import Derived.Test.YtpedlofckbplmaaDrawB
import Derived.WalkKit
import Derived.ProofKit
import Derived.OpenShut
import Derived.ShutString
import Derived.ChangeOld
import Derived.Below
namespace Go.Proofs.Ytpedlofckbplmaa.fnModeTables
open Go.ChangeShapes Go.WideShapes Go.ChangeAt Go.RowKit
open Go.ChangeMaps (open_string shut_string)
set_option linter.unusedVariables false


/-- WHAT THE WALK IS TOLD OF A SLICE OF INTEGERS THAT CAME IN: it is nil; or it leads to a row of 'cap' cells, the numbers 'zs' (the first 'len' are its elements, the rest its spare room), each fitting its kind. -/
def IsRow (k : IntKind) (w : World) (a : Option Addr) (len cap : Nat) (zs : List Int) : Prop :=
  (a = none ∧ len = 0 ∧ cap = 0 ∧ zs = []) ∨
  ∃ x, a = some x ∧ len ≤ cap ∧ cap ≤ maxLen ∧ zs.length = cap ∧ (∀ i, i < zs.length → w.cell? (x.add i) = some (.int k (zs.getD i 0))) ∧ ∀ n ∈ zs, (Lit.int k n).wf = true

/-! ### STEP 1: THE WALK: the Go text returns true, AND WRITES NOTHING THAT WAS THERE: 'Below w.heap.size w w'' (Derived/Below.lean: '.refl', '.alloc', '.drew', '.setCell' at a new block, '.trans'). Open each 'IsRow' by 'rcases' AHEAD of 'go_enter'; part every test ahead of the walk. -/
set_option maxRecDepth 100000 in set_option maxHeartbeats 4000000 in set_option linter.unusedSimpArgs false in
theorem walk (a0 : Option Addr) (len0 cap0 : Nat) (z0 : List Int) (w : World) (w0 : IsRow .u8 w a0 len0 cap0 z0) :
    Calls Try.prog 5 #[.slice a0 len0 cap0] w fun e w' => e = .returned (.bool true) ∧ Below w.heap.size w w' := by
  have hr := rdB_of_row w0
  clear w0
  generalize List.take len0 z0 = cs at hr
  have HR := Lib.hid hr; clear hr
  by_cases hbig : len0 ≤ 4096
  rotate_left
  · go_enter Try.func5, Try.ntmps5
    go_wp2_with fail
    refine (big_yes _ _ _ _ hbig).mono ?_
    rintro e w' ⟨rfl, rfl⟩
    go_wp2
    go_ret
    exact ⟨rfl, Below.refl _ _⟩
  go_enter Try.func5, Try.ntmps5
  go_wp2_with fail
  refine (big_no _ _ _ _ hbig).mono ?_
  rintro e w' ⟨rfl, rfl⟩
  go_wp2_with fail
  refine (drawModeTableBytes_any _ _ _ cs _ HR.out (by omega)).mono ?_
  rintro e w1 ⟨tao, tn, tcap, ms, rfl, rT, haT, bT⟩
  have HT := Lib.hid rT; have HBT := Lib.hid bT
  have HSM := Lib.hid (show smallM ms from fun c hc => by have := haT.2 c hc; omega)
  have htn : tn ≤ 1048576 := by have := haT.1; have := rT.len; omega
  have htl : ms.length = tn := rT.len
  have HTL := Lib.hid htl
  have HRB := Lib.hid (rdB_later HR.out HBT.out)
  have H : Hold w1 w1 [] := Hold.start
  obtain ⟨t, ht⟩ : ∃ t, mds ms = t := ⟨_, rfl⟩
  have HMT := Lib.hid ht
  clear rT haT bT HR htl ht
  obtain ⟨r0, kc0, hF⟩ : ∃ r0 kc0, modeTableBytes t = (r0, kc0) := ⟨_, _, rfl⟩
  have HF := Lib.hid hF
  have hlen : r0.length ≤ 1048576 := by have h := modeTableBytes_len t; rw [hF] at h; exact h
  clear hF
  go_wp2_with fail
  refine (modeBytesI_any _ _ _ ms _ (HT.out.below H.below) htn HSM.out).mono ?_
  rintro e w1' m1
  rw [HMT.out, HF.out] at m1
  change Makes2 2 _ r0 kc0 _ _ at m1
  obtain ⟨p1, c1, rfl, o1, -, b1⟩ := m1.get
  replace H : Hold w1 _ ([ints 2 (Value.slice p1 r0.length c1) (r0)] ++ (([] : List It))) := H.makeI o1 b1
  clear o1 b1 m1
  go_wp2_with fail
  refine (modeBytesS_any _ _ _ ms _ (HT.out.below H.below) htn HSM.out).mono ?_
  rintro e w2' m2
  rw [HMT.out, HF.out] at m2
  change Makes2 2 _ r0 kc0 _ _ at m2
  obtain ⟨p2, c2, rfl, o2, -, b2⟩ := m2.get
  replace H : Hold w1 _ ([ints 2 (Value.slice p2 r0.length c2) (r0)] ++ ([ints 2 (Value.slice p1 r0.length c1) (r0)] ++ (([] : List It)))) := H.makeI o2 b2
  clear o2 b2 m2
  go_wp2_with fail
  refine (drawReadModeTable_any _ _ _ cs _ (rdB_later HRB.out H.below) (by omega)).mono ?_
  rintro e w3' ⟨v, ys, rfl, oY, hyl, bY⟩
  obtain ⟨pY, cY, rfl, oY, -⟩ := oY.get
  replace H : Hold w1 _ ([ints 2 (Value.slice pY ys.length cY) (ys)] ++ ([ints 2 (Value.slice p2 r0.length c2) (r0)] ++ ([ints 2 (Value.slice p1 r0.length c1) (r0)] ++ (([] : List It))))) := H.makeI oY bY
  clear oY bY hbig
  obtain ⟨t1, n1, kc1, hG⟩ : ∃ t1 n1 kc1, readModeTable ys = (t1, n1, kc1) := ⟨_, _, _, rfl⟩
  have HG := Lib.hid hG
  have hsm1 : t1.length ≤ 1048576 ∧ mTot t1 ≤ 3145728 ∧ ∀ x ∈ t1, x.next.length ≤ 1048576 := by have h := readModeTable_small ys; rw [hG] at h; exact h
  obtain ⟨hl1, -, hs1⟩ := hsm1
  have HS1 := Lib.hid hs1
  clear hG hs1
  go_wp2_with fail
  refine (readModesI_any _ _ _ ys _ (Hold.rdI_ (E := 2) (xs := ys) (ao := pY) (n := ys.length) (cap := cY) (L1 := ([] : List It)) (L2 := [ints 2 (Value.slice p2 r0.length c2) (r0)] ++ ([ints 2 (Value.slice p1 r0.length c1) (r0)] ++ (([] : List It)))) (by simpa only [List.append_assoc, List.nil_append] using H)) hyl (Own.cap (Hold.getI_ (E := 2) (xs := ys) (v := Value.slice pY ys.length cY) (L1 := ([] : List It)) (L2 := [ints 2 (Value.slice p2 r0.length c2) (r0)] ++ ([ints 2 (Value.slice p1 r0.length c1) (r0)] ++ (([] : List It)))) (by simpa only [List.append_assoc, List.nil_append] using H))).1 (Own.cap (Hold.getI_ (E := 2) (xs := ys) (v := Value.slice pY ys.length cY) (L1 := ([] : List It)) (L2 := [ints 2 (Value.slice p2 r0.length c2) (r0)] ++ ([ints 2 (Value.slice p1 r0.length c1) (r0)] ++ (([] : List It)))) (by simpa only [List.append_assoc, List.nil_append] using H))).2 (fun ad e => ((Hold.getI_ (E := 2) (xs := ys) (v := Value.slice pY ys.length cY) (L1 := ([] : List It)) (L2 := [ints 2 (Value.slice p2 r0.length c2) (r0)] ++ ([ints 2 (Value.slice p1 r0.length c1) (r0)] ++ (([] : List It)))) (by simpa only [List.append_assoc, List.nil_append] using H)).block _ (by rw [e]; rfl)).2)).mono ?_
  rintro e w4' m4
  rw [HG.out] at m4
  change MakesM3 78 2 _ t1 n1 kc1 _ _ at m4
  obtain ⟨p4, c4, d4, hm4, rfl, o4, -, b4⟩ := m4.get
  have HM4 := Lib.hid hm4; have HL4 := Lib.hid (len_of hm4); clear hm4
  replace H := H.makeM ne_md o4 b4
  clear o4 b4 m4
  go_wp2_with fail
  refine (readModesS_any _ _ _ ys _ (Hold.rdI_ (E := 2) (xs := ys) (ao := pY) (n := ys.length) (cap := cY) (L1 := mis 78 2 (Value.slice p4 d4.length c4) (d4) ++ (([] : List It))) (L2 := [ints 2 (Value.slice p2 r0.length c2) (r0)] ++ ([ints 2 (Value.slice p1 r0.length c1) (r0)] ++ (([] : List It)))) (by simpa only [List.append_assoc, List.nil_append] using H)) hyl (Own.cap (Hold.getI_ (E := 2) (xs := ys) (v := Value.slice pY ys.length cY) (L1 := mis 78 2 (Value.slice p4 d4.length c4) (d4) ++ (([] : List It))) (L2 := [ints 2 (Value.slice p2 r0.length c2) (r0)] ++ ([ints 2 (Value.slice p1 r0.length c1) (r0)] ++ (([] : List It)))) (by simpa only [List.append_assoc, List.nil_append] using H))).1 (Own.cap (Hold.getI_ (E := 2) (xs := ys) (v := Value.slice pY ys.length cY) (L1 := mis 78 2 (Value.slice p4 d4.length c4) (d4) ++ (([] : List It))) (L2 := [ints 2 (Value.slice p2 r0.length c2) (r0)] ++ ([ints 2 (Value.slice p1 r0.length c1) (r0)] ++ (([] : List It)))) (by simpa only [List.append_assoc, List.nil_append] using H))).2).mono ?_
  rintro e w5' m5
  rw [HG.out] at m5
  change MakesM3 78 2 _ t1 n1 kc1 _ _ at m5
  obtain ⟨p5, c5, d5, hm5, rfl, o5, -, b5⟩ := m5.get
  have HM5 := Lib.hid hm5; have HL5 := Lib.hid (len_of hm5); clear hm5
  replace H := H.makeM ne_md o5 b5
  clear o5 b5 m5
  have hn0 : (kc0 != kc0) = false := bne_self_eq_false _
  have hn1 : (kc1 != kc1) = false := bne_self_eq_false _
  have hn2 : (n1 != n1) = false := bne_self_eq_false _
  have hnt : (isModes t != isModes t) = false := bne_self_eq_false _
  go_wp2_with fail
  refine (like_yes _ _ _ _ _ _ _ _ (Hold.rdI_ (E := 2) (xs := r0) (ao := p1) (n := r0.length) (cap := c1) (L1 := mis 78 2 (Value.slice p5 d5.length c5) (d5) ++ (mis 78 2 (Value.slice p4 d4.length c4) (d4) ++ ([ints 2 (Value.slice pY ys.length cY) (ys)] ++ ([ints 2 (Value.slice p2 r0.length c2) (r0)] ++ (([] : List It)))))) (L2 := ([] : List It)) (by simpa only [List.append_assoc, List.nil_append] using H)) (Hold.rdI_ (E := 2) (xs := r0) (ao := p2) (n := r0.length) (cap := c2) (L1 := mis 78 2 (Value.slice p5 d5.length c5) (d5) ++ (mis 78 2 (Value.slice p4 d4.length c4) (d4) ++ ([ints 2 (Value.slice pY ys.length cY) (ys)] ++ (([] : List It))))) (L2 := [ints 2 (Value.slice p1 r0.length c1) (r0)] ++ (([] : List It))) (by simpa only [List.append_assoc, List.nil_append] using H)) (by omega)).mono ?_
  rintro e w6' ⟨rfl, b6⟩
  replace H := H.still b6
  clear b6
  go_wp2_with fail
  refine (likeModes_two _ _ _ _ _ _ _ (Hold.rdM (E := 78) (EI := 2) (cs := d4) (ao := p4) (n := d4.length) (cap := c4) (L1 := mis 78 2 (Value.slice p5 d5.length c5) (d5) ++ (([] : List It))) (L2 := [ints 2 (Value.slice pY ys.length cY) (ys)] ++ ([ints 2 (Value.slice p2 r0.length c2) (r0)] ++ ([ints 2 (Value.slice p1 r0.length c1) (r0)] ++ (([] : List It))))) (by simpa only [List.append_assoc, List.nil_append] using H)) (Hold.rdM (E := 78) (EI := 2) (cs := d5) (ao := p5) (n := d5.length) (cap := c5) (L1 := ([] : List It)) (L2 := mis 78 2 (Value.slice p4 d4.length c4) (d4) ++ ([ints 2 (Value.slice pY ys.length cY) (ys)] ++ ([ints 2 (Value.slice p2 r0.length c2) (r0)] ++ ([ints 2 (Value.slice p1 r0.length c1) (r0)] ++ (([] : List It)))))) (by simpa only [List.append_assoc, List.nil_append] using H)) (HM4.out.trans HM5.out.symm) (by rw [HL4.out]; omega)).mono ?_
  rintro e w7' ⟨rfl, b7⟩
  replace H := H.still b7
  clear b7
  go_wp2_with fail
  refine (isModesI_any _ _ _ ms _ (HT.out.below H.below) htn HSM.out).mono ?_
  rintro e w8' ⟨rfl, b8⟩
  replace H := H.still b8
  clear b8
  rw [HMT.out]
  go_wp2_with fail
  refine (isModesS_any _ _ _ ms _ (HT.out.below H.below) htn HSM.out).mono ?_
  rintro e w9' ⟨rfl, b9⟩
  replace H := H.still b9
  clear b9
  rw [HMT.out]
  clear hn0 hn1 hn2
  by_cases hone : kc1 = 0
  · subst hone
    obtain ⟨a, hna, hay, hag⟩ := read_modes_again HG.out
    subst hna
    have HAG := Lib.hid hag; clear hag
    have hac : (a : Int) ≤ (ys.length : Int) := by omega
    have ha0 : (0 : Int) ≤ (a : Int) := by omega
    have hcy := (Own.cap (Hold.getI_ (E := 2) (xs := ys) (v := Value.slice pY ys.length cY) (L1 := mis 78 2 (Value.slice p5 d5.length c5) (d5) ++ (mis 78 2 (Value.slice p4 d4.length c4) (d4) ++ (([] : List It)))) (L2 := [ints 2 (Value.slice p2 r0.length c2) (r0)] ++ ([ints 2 (Value.slice p1 r0.length c1) (r0)] ++ (([] : List It)))) (by simpa only [List.append_assoc, List.nil_append] using H))).1
    have hac2 : (a : Int) ≤ (cY : Int) := by omega
    go_wp2_with fail
    refine (modeBytesI_any _ _ _ d4 _ (Hold.rdM (E := 78) (EI := 2) (cs := d4) (ao := p4) (n := d4.length) (cap := c4) (L1 := mis 78 2 (Value.slice p5 d5.length c5) (d5) ++ (([] : List It))) (L2 := [ints 2 (Value.slice pY ys.length cY) (ys)] ++ ([ints 2 (Value.slice p2 r0.length c2) (r0)] ++ ([ints 2 (Value.slice p1 r0.length c1) (r0)] ++ (([] : List It))))) (by simpa only [List.append_assoc, List.nil_append] using H)) (by rw [HL4.out]; omega) (small_of HM4.out HS1.out)).mono ?_
    rintro e w10' m10
    rw [HM4.out, HAG.out] at m10
    change Makes2 2 _ (ys.take a) 0 _ _ at m10
    have hyta : (ys.take a).length = a := by rw [List.length_take]; omega
    obtain ⟨p10, c10, rfl, o10, -, b10⟩ := m10.get
    replace H : Hold w1 _ ([ints 2 (Value.slice p10 (ys.take a).length c10) ((ys.take a))] ++ (mis 78 2 (Value.slice p5 d5.length c5) (d5) ++ (mis 78 2 (Value.slice p4 d4.length c4) (d4) ++ ([ints 2 (Value.slice pY ys.length cY) (ys)] ++ ([ints 2 (Value.slice p2 r0.length c2) (r0)] ++ ([ints 2 (Value.slice p1 r0.length c1) (r0)] ++ (([] : List It)))))))) := H.makeI o10 b10
    clear o10 b10 m10
    rw [hyta]
    have hrag := (Hold.rdI_ (E := 2) (xs := (ys.take a)) (ao := p10) (n := (ys.take a).length) (cap := c10) (L1 := ([] : List It)) (L2 := mis 78 2 (Value.slice p5 d5.length c5) (d5) ++ (mis 78 2 (Value.slice p4 d4.length c4) (d4) ++ ([ints 2 (Value.slice pY ys.length cY) (ys)] ++ ([ints 2 (Value.slice p2 r0.length c2) (r0)] ++ ([ints 2 (Value.slice p1 r0.length c1) (r0)] ++ (([] : List It))))))) (by simpa only [List.append_assoc, List.nil_append] using H))
    rw [hyta] at hrag
    have HRAG := Lib.hid hrag; clear hrag
    go_wp2_with fail
    refine (like_yes _ _ _ _ _ _ _ _ HRAG.out (Rd.front (Hold.rdI_ (E := 2) (xs := ys) (ao := pY) (n := ys.length) (cap := cY) (L1 := [ints 2 (Value.slice p10 (ys.take a).length c10) ((ys.take a))] ++ (mis 78 2 (Value.slice p5 d5.length c5) (d5) ++ (mis 78 2 (Value.slice p4 d4.length c4) (d4) ++ (([] : List It))))) (L2 := [ints 2 (Value.slice p2 r0.length c2) (r0)] ++ ([ints 2 (Value.slice p1 r0.length c1) (r0)] ++ (([] : List It)))) (by simpa only [List.append_assoc, List.nil_append] using H)) hay) (by omega)).mono ?_
    rintro e w11' ⟨rfl, b11⟩
    replace H := H.still b11
    clear b11 HRAG
    by_cases hbad : kc0 = 0
    rotate_left
    · have t1' : (kc0 != 0) = true := by simp [hbad]
      clear hbad
      go_wp2_with fail
      go_ret
      exact ⟨rfl, HBT.out.trans (H.below.mono HBT.out.size)⟩
    subst hbad
    obtain ⟨hit, hr0⟩ := bytes_modes HF.out
    have hround : readModeTable (r0 ++ [7]) = (t, (r0.length : Int), 0) := by rw [hr0]; exact modes_round hit [7] (modes_two hit [7] (by intro z hz; simp at hz; omega) (by simp))
    have HRO := Lib.hid hround
    have hr305 : r0.length ≤ 305 := by rw [hr0]; exact modeBytes_len hit
    have hts := small_valid hit
    have HTS := Lib.hid hts
    have heq : ((r0.length : Int) == (r0.length : Int)) = true := by simp
    clear hit hr0 hround hts
    go_wp2_with (first
      | (at_builtin; refine append_list _ rfl (.tmp 100) (.tmp 101) rfl w11'.heap.size Try.underlying26 info64 _ [] rfl (Own.of_alloc_nil (Nat.le_refl _)) _ _ _ r0 rfl ((Hold.rdI_ (E := 2) (xs := r0) (ao := p1) (n := r0.length) (cap := c1) (L1 := [ints 2 (Value.slice p10 (ys.take a).length c10) ((ys.take a))] ++ (mis 78 2 (Value.slice p5 d5.length c5) (d5) ++ (mis 78 2 (Value.slice p4 d4.length c4) (d4) ++ ([ints 2 (Value.slice pY ys.length cY) (ys)] ++ ([ints 2 (Value.slice p2 r0.length c2) (r0)] ++ (([] : List It))))))) (L2 := ([] : List It)) (by simpa only [List.append_assoc, List.nil_append] using H)).below ((Below.refl _ _).alloc (Nat.le_refl _) _)) (by simp; omega) (by simp) ?_; intro vA wA oA bA; have hbA : Below w11'.heap.size w11' wA := ((Below.refl _ _).alloc (Nat.le_refl _) _).trans bA)
      | (at_builtin; refine append_list _ rfl (.tmp 102) (.tmp 103) rfl w11'.heap.size Try.underlying26 info64 _ ([] ++ r0) rfl (oA.below ((Below.refl _ _).alloc (Nat.le_refl _) _)) _ _ _ [7] rfl (rd_one _ _ _) (by simp; omega) (by have := hbA.size; simp; omega) ?_; intro vB wB oB bB))
    have hbB : Below w11'.heap.size w11' wB := (hbA.alloc hbA.size _).trans bB
    rw [List.nil_append] at oB
    obtain ⟨pB, cB, hvB, oB, -⟩ := oB.get
    subst hvB
    replace H : Hold w1 _ ([ints 2 (Value.slice pB (r0 ++ [7]).length cB) ((r0 ++ [7]))] ++ ([ints 2 (Value.slice p10 (ys.take a).length c10) ((ys.take a))] ++ (mis 78 2 (Value.slice p5 d5.length c5) (d5) ++ (mis 78 2 (Value.slice p4 d4.length c4) (d4) ++ ([ints 2 (Value.slice pY ys.length cY) (ys)] ++ ([ints 2 (Value.slice p2 r0.length c2) (r0)] ++ ([ints 2 (Value.slice p1 r0.length c1) (r0)] ++ (([] : List It))))))))) := H.makeI oB hbB
    clear oA bA hbA oB bB hbB
    have hXl2 : (r0 ++ [7]).length ≤ 1048576 := by rw [List.length_append]; simp; omega
    generalize r0 ++ [7] = X at H HRO hXl2 ⊢
    refine (readModesI_any _ _ _ X _ (Hold.rdI_ (E := 2) (xs := X) (ao := pB) (n := X.length) (cap := cB) (L1 := ([] : List It)) (L2 := [ints 2 (Value.slice p10 (ys.take a).length c10) ((ys.take a))] ++ (mis 78 2 (Value.slice p5 d5.length c5) (d5) ++ (mis 78 2 (Value.slice p4 d4.length c4) (d4) ++ ([ints 2 (Value.slice pY ys.length cY) (ys)] ++ ([ints 2 (Value.slice p2 r0.length c2) (r0)] ++ ([ints 2 (Value.slice p1 r0.length c1) (r0)] ++ (([] : List It)))))))) (by simpa only [List.append_assoc, List.nil_append] using H)) hXl2 (Own.cap (Hold.getI_ (E := 2) (xs := X) (v := Value.slice pB X.length cB) (L1 := ([] : List It)) (L2 := [ints 2 (Value.slice p10 (ys.take a).length c10) ((ys.take a))] ++ (mis 78 2 (Value.slice p5 d5.length c5) (d5) ++ (mis 78 2 (Value.slice p4 d4.length c4) (d4) ++ ([ints 2 (Value.slice pY ys.length cY) (ys)] ++ ([ints 2 (Value.slice p2 r0.length c2) (r0)] ++ ([ints 2 (Value.slice p1 r0.length c1) (r0)] ++ (([] : List It)))))))) (by simpa only [List.append_assoc, List.nil_append] using H))).1 (Own.cap (Hold.getI_ (E := 2) (xs := X) (v := Value.slice pB X.length cB) (L1 := ([] : List It)) (L2 := [ints 2 (Value.slice p10 (ys.take a).length c10) ((ys.take a))] ++ (mis 78 2 (Value.slice p5 d5.length c5) (d5) ++ (mis 78 2 (Value.slice p4 d4.length c4) (d4) ++ ([ints 2 (Value.slice pY ys.length cY) (ys)] ++ ([ints 2 (Value.slice p2 r0.length c2) (r0)] ++ ([ints 2 (Value.slice p1 r0.length c1) (r0)] ++ (([] : List It)))))))) (by simpa only [List.append_assoc, List.nil_append] using H))).2 (fun ad e => ((Hold.getI_ (E := 2) (xs := X) (v := Value.slice pB X.length cB) (L1 := ([] : List It)) (L2 := [ints 2 (Value.slice p10 (ys.take a).length c10) ((ys.take a))] ++ (mis 78 2 (Value.slice p5 d5.length c5) (d5) ++ (mis 78 2 (Value.slice p4 d4.length c4) (d4) ++ ([ints 2 (Value.slice pY ys.length cY) (ys)] ++ ([ints 2 (Value.slice p2 r0.length c2) (r0)] ++ ([ints 2 (Value.slice p1 r0.length c1) (r0)] ++ (([] : List It)))))))) (by simpa only [List.append_assoc, List.nil_append] using H)).block _ (by rw [e]; rfl)).2)).mono ?_
    rintro e w12' m12
    rw [HRO.out] at m12
    change MakesM3 78 2 _ t (r0.length : Int) 0 _ _ at m12
    obtain ⟨p12, c12, d12, hm12, rfl, o12, -, b12⟩ := m12.get
    have HM12 := Lib.hid hm12; have HL12 := Lib.hid (len_of hm12); clear hm12
    replace H := H.makeM ne_md o12 b12
    clear o12 b12 m12
    have htt : t.length ≤ 1048576 := by rw [← HMT.out, mds_len, HTL.out]; exact htn
    go_wp2_with fail
    have hrt := HT.out.below H.below
    rw [← HTL.out] at hrt
    have HRT := Lib.hid hrt; clear hrt
    rw [← HTL.out]
    refine (likeModes_two _ _ _ _ _ _ _ (Hold.rdM (E := 78) (EI := 2) (cs := d12) (ao := p12) (n := d12.length) (cap := c12) (L1 := ([] : List It)) (L2 := [ints 2 (Value.slice pB X.length cB) (X)] ++ ([ints 2 (Value.slice p10 (ys.take a).length c10) ((ys.take a))] ++ (mis 78 2 (Value.slice p5 d5.length c5) (d5) ++ (mis 78 2 (Value.slice p4 d4.length c4) (d4) ++ ([ints 2 (Value.slice pY ys.length cY) (ys)] ++ ([ints 2 (Value.slice p2 r0.length c2) (r0)] ++ ([ints 2 (Value.slice p1 r0.length c1) (r0)] ++ (([] : List It))))))))) (by simpa only [List.append_assoc, List.nil_append] using H)) HRT.out (HM12.out.trans HMT.out.symm) (by rw [HL12.out]; omega)).mono ?_
    rintro e w13' ⟨rfl, b13⟩
    replace H := H.still b13
    clear b13 HRT
    go_wp2_with fail
    go_ret
    exact ⟨rfl, HBT.out.trans (H.below.mono HBT.out.size)⟩
  · skip
    have t1n : (kc1 == 0) = false := by simp [hone]
    clear hone
    by_cases hbad : kc0 = 0
    rotate_left
    · have t1' : (kc0 != 0) = true := by simp [hbad]
      clear hbad
      go_wp2_with fail
      go_ret
      exact ⟨rfl, HBT.out.trans (H.below.mono HBT.out.size)⟩
    subst hbad
    obtain ⟨hit, hr0⟩ := bytes_modes HF.out
    have hround : readModeTable (r0 ++ [7]) = (t, (r0.length : Int), 0) := by rw [hr0]; exact modes_round hit [7] (modes_two hit [7] (by intro z hz; simp at hz; omega) (by simp))
    have HRO := Lib.hid hround
    have hr305 : r0.length ≤ 305 := by rw [hr0]; exact modeBytes_len hit
    have hts := small_valid hit
    have HTS := Lib.hid hts
    have heq : ((r0.length : Int) == (r0.length : Int)) = true := by simp
    clear hit hr0 hround hts
    go_wp2_with (first
      | (at_builtin; refine append_list _ rfl (.tmp 100) (.tmp 101) rfl w9'.heap.size Try.underlying26 info64 _ [] rfl (Own.of_alloc_nil (Nat.le_refl _)) _ _ _ r0 rfl ((Hold.rdI_ (E := 2) (xs := r0) (ao := p1) (n := r0.length) (cap := c1) (L1 := mis 78 2 (Value.slice p5 d5.length c5) (d5) ++ (mis 78 2 (Value.slice p4 d4.length c4) (d4) ++ ([ints 2 (Value.slice pY ys.length cY) (ys)] ++ ([ints 2 (Value.slice p2 r0.length c2) (r0)] ++ (([] : List It)))))) (L2 := ([] : List It)) (by simpa only [List.append_assoc, List.nil_append] using H)).below ((Below.refl _ _).alloc (Nat.le_refl _) _)) (by simp; omega) (by simp) ?_; intro vA wA oA bA; have hbA : Below w9'.heap.size w9' wA := ((Below.refl _ _).alloc (Nat.le_refl _) _).trans bA)
      | (at_builtin; refine append_list _ rfl (.tmp 102) (.tmp 103) rfl w9'.heap.size Try.underlying26 info64 _ ([] ++ r0) rfl (oA.below ((Below.refl _ _).alloc (Nat.le_refl _) _)) _ _ _ [7] rfl (rd_one _ _ _) (by simp; omega) (by have := hbA.size; simp; omega) ?_; intro vB wB oB bB))
    have hbB : Below w9'.heap.size w9' wB := (hbA.alloc hbA.size _).trans bB
    rw [List.nil_append] at oB
    obtain ⟨pB, cB, hvB, oB, -⟩ := oB.get
    subst hvB
    replace H : Hold w1 _ ([ints 2 (Value.slice pB (r0 ++ [7]).length cB) ((r0 ++ [7]))] ++ (mis 78 2 (Value.slice p5 d5.length c5) (d5) ++ (mis 78 2 (Value.slice p4 d4.length c4) (d4) ++ ([ints 2 (Value.slice pY ys.length cY) (ys)] ++ ([ints 2 (Value.slice p2 r0.length c2) (r0)] ++ ([ints 2 (Value.slice p1 r0.length c1) (r0)] ++ (([] : List It)))))))) := H.makeI oB hbB
    clear oA bA hbA oB bB hbB
    have hXl2 : (r0 ++ [7]).length ≤ 1048576 := by rw [List.length_append]; simp; omega
    generalize r0 ++ [7] = X at H HRO hXl2 ⊢
    refine (readModesI_any _ _ _ X _ (Hold.rdI_ (E := 2) (xs := X) (ao := pB) (n := X.length) (cap := cB) (L1 := ([] : List It)) (L2 := mis 78 2 (Value.slice p5 d5.length c5) (d5) ++ (mis 78 2 (Value.slice p4 d4.length c4) (d4) ++ ([ints 2 (Value.slice pY ys.length cY) (ys)] ++ ([ints 2 (Value.slice p2 r0.length c2) (r0)] ++ ([ints 2 (Value.slice p1 r0.length c1) (r0)] ++ (([] : List It))))))) (by simpa only [List.append_assoc, List.nil_append] using H)) hXl2 (Own.cap (Hold.getI_ (E := 2) (xs := X) (v := Value.slice pB X.length cB) (L1 := ([] : List It)) (L2 := mis 78 2 (Value.slice p5 d5.length c5) (d5) ++ (mis 78 2 (Value.slice p4 d4.length c4) (d4) ++ ([ints 2 (Value.slice pY ys.length cY) (ys)] ++ ([ints 2 (Value.slice p2 r0.length c2) (r0)] ++ ([ints 2 (Value.slice p1 r0.length c1) (r0)] ++ (([] : List It))))))) (by simpa only [List.append_assoc, List.nil_append] using H))).1 (Own.cap (Hold.getI_ (E := 2) (xs := X) (v := Value.slice pB X.length cB) (L1 := ([] : List It)) (L2 := mis 78 2 (Value.slice p5 d5.length c5) (d5) ++ (mis 78 2 (Value.slice p4 d4.length c4) (d4) ++ ([ints 2 (Value.slice pY ys.length cY) (ys)] ++ ([ints 2 (Value.slice p2 r0.length c2) (r0)] ++ ([ints 2 (Value.slice p1 r0.length c1) (r0)] ++ (([] : List It))))))) (by simpa only [List.append_assoc, List.nil_append] using H))).2 (fun ad e => ((Hold.getI_ (E := 2) (xs := X) (v := Value.slice pB X.length cB) (L1 := ([] : List It)) (L2 := mis 78 2 (Value.slice p5 d5.length c5) (d5) ++ (mis 78 2 (Value.slice p4 d4.length c4) (d4) ++ ([ints 2 (Value.slice pY ys.length cY) (ys)] ++ ([ints 2 (Value.slice p2 r0.length c2) (r0)] ++ ([ints 2 (Value.slice p1 r0.length c1) (r0)] ++ (([] : List It))))))) (by simpa only [List.append_assoc, List.nil_append] using H)).block _ (by rw [e]; rfl)).2)).mono ?_
    rintro e w10' m10
    rw [HRO.out] at m10
    change MakesM3 78 2 _ t (r0.length : Int) 0 _ _ at m10
    obtain ⟨p10, c10, d10, hm10, rfl, o10, -, b10⟩ := m10.get
    have HM10 := Lib.hid hm10; have HL10 := Lib.hid (len_of hm10); clear hm10
    replace H := H.makeM ne_md o10 b10
    clear o10 b10 m10
    have htt : t.length ≤ 1048576 := by rw [← HMT.out, mds_len, HTL.out]; exact htn
    go_wp2_with fail
    have hrt := HT.out.below H.below
    rw [← HTL.out] at hrt
    have HRT := Lib.hid hrt; clear hrt
    rw [← HTL.out]
    refine (likeModes_two _ _ _ _ _ _ _ (Hold.rdM (E := 78) (EI := 2) (cs := d10) (ao := p10) (n := d10.length) (cap := c10) (L1 := ([] : List It)) (L2 := [ints 2 (Value.slice pB X.length cB) (X)] ++ (mis 78 2 (Value.slice p5 d5.length c5) (d5) ++ (mis 78 2 (Value.slice p4 d4.length c4) (d4) ++ ([ints 2 (Value.slice pY ys.length cY) (ys)] ++ ([ints 2 (Value.slice p2 r0.length c2) (r0)] ++ ([ints 2 (Value.slice p1 r0.length c1) (r0)] ++ (([] : List It)))))))) (by simpa only [List.append_assoc, List.nil_append] using H)) HRT.out (HM10.out.trans HMT.out.symm) (by rw [HL10.out]; omega)).mono ?_
    rintro e w11' ⟨rfl, b11⟩
    replace H := H.still b11
    clear b11 HRT
    go_wp2_with fail
    go_ret
    exact ⟨rfl, HBT.out.trans (H.below.mono HBT.out.size)⟩


end Go.Proofs.Ytpedlofckbplmaa.fnModeTables
