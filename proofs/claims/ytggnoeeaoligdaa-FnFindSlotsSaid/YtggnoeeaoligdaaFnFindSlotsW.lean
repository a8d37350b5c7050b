/-
  The walk of laws.FnFindSlots: at every input it returns true and writes nothing that was there.
-/
import Derived.Test.YtggnoeeaoligdaaRows
import Derived.Test.YtggnoeeaoligdaaP3
import Derived.Test.YtggnoeeaoligdaaEigE
import Derived.Test.YtggnoeeaoligdaaSlU
import Derived.Test.YtggnoeeaoligdaaSlF
import Derived.Test.YtggnoeeaoligdaaSlD
import Derived.Test.YtggnoeeaoligdaaDrawA
import Derived.Test.YtggnoeeaoligdaaDrawB
import Derived.WalkKit
import Derived.ProofKit
import Derived.OpenShut
import Derived.ShutString
import Derived.ChangeOld
import Derived.Below
namespace Go.Proofs.Ytggnoeeaoligdaa.fnFindSlots
open Go.ChangeShapes Go.WideShapes Go.ChangeAt Go.RowKit
open Go.ChangeMaps (open_string shut_string)
set_option linter.unusedVariables false


/-- WHAT THE WALK IS TOLD OF A SLICE OF INTEGERS THAT CAME IN: it is nil; or it leads to a row of 'cap' cells, the numbers 'zs' (the first 'len' are its elements, the rest its spare room), each fitting its kind. -/
def IsRow (k : IntKind) (w : World) (a : Option Addr) (len cap : Nat) (zs : List Int) : Prop :=
  (a = none ∧ len = 0 ∧ cap = 0 ∧ zs = []) ∨
  ∃ x, a = some x ∧ len ≤ cap ∧ cap ≤ maxLen ∧ zs.length = cap ∧ (∀ i, i < zs.length → w.cell? (x.add i) = some (.int k (zs.getD i 0))) ∧ ∀ n ∈ zs, (Lit.int k n).wf = true

/-! ### STEP 1: THE WALK: the Go text returns true, AND WRITES NOTHING THAT WAS THERE: 'Below w.heap.size w w'' (Derived/Below.lean: '.refl', '.alloc', '.drew', '.setCell' at a new block, '.trans'). Open each 'IsRow' by 'rcases' AHEAD of 'go_enter'; part every test ahead of the walk. -/
set_option maxRecDepth 100000 in set_option maxHeartbeats 4000000 in set_option linter.unusedSimpArgs false in set_option linter.unnecessarySimpa false in
theorem walk (a0 : Option Addr) (len0 cap0 : Nat) (z0 : List Int) (w : World) (w0 : IsRow .u8 w a0 len0 cap0 z0) :
    Calls Try.prog 5 #[.slice a0 len0 cap0] w fun e w' => e = .returned (.bool true) ∧ Below w.heap.size w w' := by
  have hr := rdB_of_row w0
  clear w0
  generalize List.take len0 z0 = cs at hr
  have HR := Lib.hid hr; clear hr
  by_cases hbig : len0 ≤ 4096
  rotate_left
  · go_enter Try.func5, Try.ntmps5
    go_wp2_with fail
    refine (big_yes _ _ _ _ hbig).mono ?_
    rintro e w' ⟨rfl, rfl⟩
    go_wp2
    go_ret
    exact ⟨rfl, Below.refl _ _⟩
  go_enter Try.func5, Try.ntmps5
  go_wp2_with fail
  refine (big_no _ _ _ _ hbig).mono ?_
  rintro e w' ⟨rfl, rfl⟩
  go_wp2_with fail
  refine (drawFindSlot_any _ _ _ cs _ HR.out (by omega)).mono ?_
  rintro e w1 ⟨v, t, m, r, s, rfl, oT, haT, hrng, bT⟩
  obtain ⟨pT, cT, rfl, -, rT⟩ := oT.get
  have htn : t.length ≤ 1048576 := by unfold anyS at haT; omega
  have hwfk : wfk m r s := ⟨WalkArith.wf_i64 (by omega), WalkArith.wf_i64 (by omega), WalkArith.wf_i64 (by omega)⟩
  have HT := Lib.hid rT; have HB1 := Lib.hid bT
  clear oT haT bT rT hrng
  obtain ⟨⟨q0, q1, q2, q3, q4⟩, kc, hF⟩ : ∃ d c, findSlot t m r s = (d, c) := ⟨_, _, rfl⟩
  have HIS := Lib.hid (show kc ≠ 1 → isSls t = true from fun h => by
    cases hi : isSls t with
    | true => rfl
    | false => rw [findSlot_no hi] at hF; cases hF; exact absurd rfl h)
  have HF := Lib.hid hF; clear hF
  go_wp2_with fail
  refine (findSlotI_any _ _ _ _ _ _ _ _ HT.out htn hwfk).mono ?_
  rintro e w2 ⟨rfl, b2⟩
  rw [HF.out]
  dsimp only [dsVal]
  have hb3 : Below w1.heap.size w1 (w2.alloc (.cells #[.int .i64 q0, .int .i64 q1, .int .i64 q2, .int .i64 q3, .bool q4] 36)) := below_two b2 ((Below.refl _ _).alloc (Nat.le_refl _) _)
  have HT3 := Lib.hid (HT.out.below hb3); have HB3 := Lib.hid (below_two HB1.out hb3)
  have X1 := Lib.hid (DescAt.new (T := 36) (n := q0) (a := q1) (z := q2) (u := q3) (c := q4) w2)
  clear b2 hb3 HT HB1
  go_upto_region 5 with fail
  generalize w2.heap.size = d1 at X1 ⊢
  generalize w2.alloc (.cells #[.int .i64 q0, .int .i64 q1, .int .i64 q2, .int .i64 q3, .bool q4] 36) = w3 at X1 HT3 HB3 ⊢
  go_wp2_with fail
  refine (findSlotS_any _ _ _ _ _ _ _ _ HT3.out htn).mono ?_
  rintro e w4 ⟨rfl, b4⟩
  rw [HF.out]
  dsimp only [dsVal]
  have hb5 : Below w3.heap.size w3 (w4.alloc (.cells #[.int .i64 q0, .int .i64 q1, .int .i64 q2, .int .i64 q3, .bool q4] 36)) := below_two b4 ((Below.refl _ _).alloc (Nat.le_refl _) _)
  have HT5 := Lib.hid (HT3.out.below hb5); have HB5 := Lib.hid (below_two HB3.out hb5)
  have Y1 := Lib.hid (X1.out.below hb5 X1.out.lt)
  have X2 := Lib.hid (DescAt.new (T := 36) (n := q0) (a := q1) (z := q2) (u := q3) (c := q4) w4)
  clear b4 hb5 HT3 HB3 X1
  go_upto_region 6 with fail
  generalize w4.heap.size = d2 at X2 ⊢
  generalize w4.alloc (.cells #[.int .i64 q0, .int .i64 q1, .int .i64 q2, .int .i64 q3, .bool q4] 36) = w5 at X2 Y1 HT5 HB5 ⊢
  have H : Hold w5 w5 [] := Hold.start
  go_wp2_with fail
  refine (drawSlotsOfNode_any _ _ _ cs _ (rdB_later HR.out HB5.out) (by omega)).mono ?_
  rintro e w6' ⟨v, u, nd, rfl, oU, haU, bU⟩
  obtain ⟨pU, cU, rfl, oU, -⟩ := oU.get
  have hun : u.length ≤ 1048576 := by unfold anyS at haU; omega
  replace H : Hold w5 _ ([itsE 38 (Value.slice pU u.length cU) (u)] ++ (([] : List It))) := H.makeE oU bU
  clear oU bU haU
  obtain ⟨r0, kc1, hG⟩ : ∃ r0 c, slotsOfNode u nd = (r0, c) := ⟨_, _, rfl⟩
  have HG := Lib.hid hG
  have hlen : r0.length ≤ 1048576 := by have h := slotsOfNode_small u nd; rw [hG] at h; exact h
  clear hG
  go_wp2_with fail
  refine (slotsOfNodeI_any _ _ _ u _ _ (Hold.rdE_ (E := 38) (t := u) (ao := pU) (n := u.length) (cap := cU) (L1 := ([] : List It)) (L2 := ([] : List It)) (by simpa only [List.append_assoc, List.nil_append] using H)) hun).mono ?_
  rintro e w7' m7
  rw [HG.out] at m7
  change Makes2 2 _ r0 kc1 _ _ at m7
  obtain ⟨p7, c7, rfl, o7, -, b7⟩ := m7.get
  replace H : Hold w5 _ ([ints 2 (Value.slice p7 r0.length c7) (r0)] ++ ([itsE 38 (Value.slice pU u.length cU) (u)] ++ (([] : List It)))) := H.makeI o7 b7
  clear o7 b7 m7
  go_wp2_with fail
  refine (slotsOfNodeS_any _ _ _ u _ _ (Hold.rdE_ (E := 38) (t := u) (ao := pU) (n := u.length) (cap := cU) (L1 := [ints 2 (Value.slice p7 r0.length c7) (r0)] ++ (([] : List It))) (L2 := ([] : List It)) (by simpa only [List.append_assoc, List.nil_append] using H)) hun).mono ?_
  rintro e w8' m8
  rw [HG.out] at m8
  change Makes2 2 _ r0 kc1 _ _ at m8
  obtain ⟨p8, c8, rfl, o8, -, b8⟩ := m8.get
  replace H : Hold w5 _ ([ints 2 (Value.slice p8 r0.length c8) (r0)] ++ ([ints 2 (Value.slice p7 r0.length c7) (r0)] ++ ([itsE 38 (Value.slice pU u.length cU) (u)] ++ (([] : List It))))) := H.makeI o8 b8
  clear o8 b8 m8
  obtain ⟨c0, c1, c2, c3, c4⟩ := desc_cells (Y1.out.below H.below Y1.out.lt)
  obtain ⟨e0, e1, e2, e3, e4⟩ := desc_cells (X2.out.below H.below X2.out.lt)
  have n0 : (kc != kc) = false := bne_self_eq_false _
  have n1 : (kc1 != kc1) = false := bne_self_eq_false _
  have n5 := fun w => desc_neq_self q0 q1 q2 q3 q4 w
  go_wp2_with fail
  clear c0 c1 c2 c3 c4 e0 e1 e2 e3 e4 n5
  refine (like_yes _ _ _ _ _ _ _ _ (Hold.rdI_ (E := 2) (xs := r0) (ao := p7) (n := r0.length) (cap := c7) (L1 := [ints 2 (Value.slice p8 r0.length c8) (r0)] ++ (([] : List It))) (L2 := [itsE 38 (Value.slice pU u.length cU) (u)] ++ (([] : List It))) (by simpa only [List.append_assoc, List.nil_append] using H)) (Hold.rdI_ (E := 2) (xs := r0) (ao := p8) (n := r0.length) (cap := c8) (L1 := ([] : List It)) (L2 := [ints 2 (Value.slice p7 r0.length c7) (r0)] ++ ([itsE 38 (Value.slice pU u.length cU) (u)] ++ (([] : List It)))) (by simpa only [List.append_assoc, List.nil_append] using H)) (by omega)).mono ?_
  rintro e w9' ⟨rfl, b9⟩
  replace H := H.still b9
  clear b9 n0 n1
  have HBW := Lib.hid (HB5.out.trans (H.below.mono HB5.out.size)); have HT7 := Lib.hid (HT5.out.below H.below)
  clear H HT5 HB5 Y1 X2 HF HG HR hwfk
  by_cases h1 : kc = 1
  · subst h1
    go_wp2_with fail
    go_ret
    exact ⟨rfl, HBW.out⟩
  have hit := HIS.out h1
  have t1 : (kc == 1) = false := by simp [h1]
  have HIT := Lib.hid hit
  clear HIS h1 hit
  generalize w9' = w7 at HBW HT7 ⊢
  obtain ⟨n, hn⟩ : ∃ n, n = t.length := ⟨_, rfl⟩
  have HN := Lib.hid hn
  rw [← hn] at HT7 htn ⊢
  clear hn
  go_wp2_with fail
  clear t1
  go_loopw [17] (fun I wr => ∃ k : Nat, I = .int .i64 (k : Int) ∧ k ≤ n ∧ Below w7.heap.size w7 wr) (fun I _ => n - (intOf I).toNat)
  case atStart => exact ⟨0, rfl, by omega, Below.refl _ _⟩
  case round =>
    obtain ⟨k, rfl, hk, hb⟩ := hrel
    have HB := Lib.hid hb; clear hb
    by_cases hkn : k < n
    · have hki : (k : Int) < (n : Int) := by omega
      have hk0 : (0 : Int) ≤ (k : Int) := by omega
      obtain ⟨b, off, e, -, hin⟩ := HT7.out.at hkn
      subst e
      have hmem : slOf t k ∈ t := slOf_mem (by rw [← HN.out]; exact hkn)
      have hfh := find_here HIT.out hmem
      have hwx := wfE_all HIT.out _ hmem
      have hkb : b < w7.heap.size := hin.lt
      generalize slOf t k = x at hin hfh hwx
      obtain ⟨xm, xr, xs, ⟨y0, y1, y2, y3, y4⟩⟩ := x
      have HIN := Lib.hid (fun W (hW : Below w7.heap.size w7 W) => hin.below hW hkb)
      have HFX := Lib.hid hfh; have HWX := Lib.hid hwx
      dsimp only at HFX
      clear hin hfh hwx hmem hkb
      go_upto_region 16 with fail
      have HD := Lib.hid (HB.out.trans (Below.drew (Below.refl _ _))); clear HB
      refine wp_region_held_drew (S := fun w' => w'.cell? ⟨b, off + k * 8, none⟩ = some (Value.int .i64 xm) ∧ w'.cell? ⟨b, off + k * 8 + 1, none⟩ = some (Value.int .i64 xr) ∧ w'.cell? ⟨b, off + k * 8 + 2, none⟩ = some (Value.int .i64 xs)) (by kernel_rfl) (⟨(HIN.out _ HD.out).c0, (HIN.out _ HD.out).c1, (HIN.out _ HD.out).c2⟩) (fun hHeld => ?_)
      generalize wr.drew = wd at HD hHeld ⊢
      refine wpAnyH_take (i := 0) (v := ?_) rfl (by kernel_rfl) (by kernel_rfl) (by kernel_rfl) (fun _ _ _ h => h) (Or.inl ⟨by rfl, ?_⟩) (by assumption) ?_
      rotate_left
      · (intro w hSw; (try dsimp only at hSw); go_simp; (try with_reducible rfl))
      try simp only [List.getElem_toArray, List.getElem_cons_succ, List.getElem_cons_zero, Act.put, List.setIfInBounds_toArray, List.set_cons_zero, List.set_cons_succ]
      refine wpAnyH_take (i := 1) (v := ?_) rfl (by kernel_rfl) (by kernel_rfl) (by kernel_rfl) (fun _ _ _ h => h) (Or.inl ⟨by rfl, ?_⟩) (by assumption) ?_
      rotate_left
      · (intro w hSw; (try dsimp only at hSw); go_simp; (try with_reducible rfl))
      try simp only [List.getElem_toArray, List.getElem_cons_succ, List.getElem_cons_zero, Act.put, List.setIfInBounds_toArray, List.set_cons_zero, List.set_cons_succ]
      refine wpAnyH_take (i := 2) (v := ?_) rfl (by kernel_rfl) (by kernel_rfl) (by kernel_rfl) (fun _ _ _ h => h) (Or.inl ⟨by rfl, ?_⟩) (by assumption) ?_
      rotate_left
      · (intro w hSw; (try dsimp only at hSw); go_simp; (try with_reducible rfl))
      try simp only [List.getElem_toArray, List.getElem_cons_succ, List.getElem_cons_zero, Act.put, List.setIfInBounds_toArray, List.set_cons_zero, List.set_cons_succ]
      refine wpAnyH_take (i := 3) (v := ?_) rfl (by kernel_rfl) (by kernel_rfl) (by kernel_rfl) (fun _ _ _ h => h) (Or.inl ⟨by rfl, ?_⟩) (by assumption) ?_
      rotate_left
      · (intro w hSw; (try dsimp only at hSw); go_simp; (try with_reducible rfl))
      try simp only [List.getElem_toArray, List.getElem_cons_succ, List.getElem_cons_zero, Act.put, List.setIfInBounds_toArray, List.set_cons_zero, List.set_cons_succ]
      refine wpAnyH_take (i := 4) (v := ?_) rfl (by kernel_rfl) (by kernel_rfl) (by kernel_rfl) (fun _ _ _ h => h) (Or.inl ⟨by rfl, ?_⟩) (by assumption) ?_
      rotate_left
      · (intro w hSw; (try dsimp only at hSw); go_simp; (try with_reducible rfl))
      try simp only [List.getElem_toArray, List.getElem_cons_succ, List.getElem_cons_zero, Act.put, List.setIfInBounds_toArray, List.set_cons_zero, List.set_cons_succ]
      refine wpAnyH_take (i := 5) (v := ?_) rfl (by kernel_rfl) (by kernel_rfl) (by kernel_rfl) (fun _ _ _ h => h) (Or.inl ⟨by rfl, ?_⟩) (by assumption) ?_
      rotate_left
      · (intro w hSw; (try dsimp only at hSw); go_simp; (try with_reducible rfl))
      try simp only [List.getElem_toArray, List.getElem_cons_succ, List.getElem_cons_zero, Act.put, List.setIfInBounds_toArray, List.set_cons_zero, List.set_cons_succ]
      refine wpAnyH_take (i := 6) (v := ?_) rfl (by kernel_rfl) (by kernel_rfl) (by kernel_rfl) (fun _ _ _ h => h) (Or.inl ⟨by rfl, ?_⟩) (by assumption) ?_
      rotate_left
      · (intro w hSw; (try dsimp only at hSw); go_simp; (try with_reducible rfl))
      try simp only [List.getElem_toArray, List.getElem_cons_succ, List.getElem_cons_zero, Act.put, List.setIfInBounds_toArray, List.set_cons_zero, List.set_cons_succ]
      refine wpAnyH_take (i := 7) (v := ?_) rfl (by kernel_rfl) (by kernel_rfl) (by kernel_rfl) (fun _ _ _ h => h) (Or.inl ⟨by rfl, ?_⟩) (by assumption) ?_
      rotate_left
      · (intro w hSw; (try dsimp only at hSw); go_simp; (try with_reducible rfl))
      try simp only [List.getElem_toArray, List.getElem_cons_succ, List.getElem_cons_zero, Act.put, List.setIfInBounds_toArray, List.set_cons_zero, List.set_cons_succ]
      refine wpAnyH_take (i := 8) (v := ?_) rfl (by kernel_rfl) (by kernel_rfl) (by kernel_rfl) (fun _ _ _ h => h) (Or.inl ⟨by rfl, ?_⟩) (by assumption) ?_
      rotate_left
      · (intro w hSw; (try dsimp only at hSw); go_simp; (try with_reducible rfl))
      try simp only [List.getElem_toArray, List.getElem_cons_succ, List.getElem_cons_zero, Act.put, List.setIfInBounds_toArray, List.set_cons_zero, List.set_cons_succ]
      refine wpAnyH_take (i := 9) (v := ?_) rfl (by kernel_rfl) (by kernel_rfl) (by kernel_rfl) (fun _ _ _ h => h) (Or.inl ⟨by rfl, ?_⟩) (by assumption) ?_
      rotate_left
      · (intro w hSw; (try dsimp only at hSw); go_simp; (try with_reducible rfl))
      try simp only [List.getElem_toArray, List.getElem_cons_succ, List.getElem_cons_zero, Act.put, List.setIfInBounds_toArray, List.set_cons_zero, List.set_cons_succ]
      refine wpAnyH_take (i := 10) (v := ?_) rfl (by kernel_rfl) (by kernel_rfl) (by kernel_rfl) (fun _ _ _ h => h) (Or.inl ⟨by rfl, ?_⟩) (by assumption) ?_
      rotate_left
      · (intro w hSw; (try dsimp only at hSw); go_simp; (try with_reducible rfl))
      try simp only [List.getElem_toArray, List.getElem_cons_succ, List.getElem_cons_zero, Act.put, List.setIfInBounds_toArray, List.set_cons_zero, List.set_cons_succ]
      refine wpAnyH_take (i := 11) (v := ?_) rfl (by kernel_rfl) (by kernel_rfl) (by kernel_rfl) (fun _ _ _ h => h) (Or.inl ⟨by rfl, ?_⟩) (by assumption) ?_
      rotate_left
      · (intro w hSw; (try dsimp only at hSw); go_simp; (try with_reducible rfl))
      try simp only [List.getElem_toArray, List.getElem_cons_succ, List.getElem_cons_zero, Act.put, List.setIfInBounds_toArray, List.set_cons_zero, List.set_cons_succ]
      refine wpAnyH_take (i := 12) (v := ?_) rfl (by kernel_rfl) (by kernel_rfl) (by kernel_rfl) (fun _ _ _ h => h) (Or.inl ⟨by rfl, ?_⟩) (by assumption) ?_
      rotate_left
      · (intro w hSw; (try dsimp only at hSw); go_simp; (try with_reducible rfl))
      try simp only [List.getElem_toArray, List.getElem_cons_succ, List.getElem_cons_zero, Act.put, List.setIfInBounds_toArray, List.set_cons_zero, List.set_cons_succ]
      refine wpAnyH_take (i := 13) (v := ?_) rfl (by kernel_rfl) (by kernel_rfl) (by kernel_rfl) (fun _ _ _ h => h) (Or.inl ⟨by rfl, ?_⟩) (by assumption) ?_
      rotate_left
      · (intro w hSw; (try dsimp only at hSw); go_simp; (try with_reducible rfl))
      try simp only [List.getElem_toArray, List.getElem_cons_succ, List.getElem_cons_zero, Act.put, List.setIfInBounds_toArray, List.set_cons_zero, List.set_cons_succ]
      refine wpAnyH_take (i := 14) (v := ?_) rfl (by kernel_rfl) (by kernel_rfl) (by kernel_rfl) (fun _ _ _ h => h) (Or.inl ⟨by rfl, ?_⟩) (by assumption) ?_
      rotate_left
      · (intro w hSw; (try dsimp only at hSw); go_simp; (try with_reducible rfl))
      try simp only [List.getElem_toArray, List.getElem_cons_succ, List.getElem_cons_zero, Act.put, List.setIfInBounds_toArray, List.set_cons_zero, List.set_cons_succ]
      refine wpAnyH_take (i := 15) (v := ?_) rfl (by kernel_rfl) (by kernel_rfl) (by kernel_rfl) (fun _ _ _ h => h) (Or.inl ⟨by rfl, ?_⟩) (by assumption) ?_
      rotate_left
      · (intro w hSw; (try dsimp only at hSw); go_simp; (try with_reducible rfl))
      try simp only [List.getElem_toArray, List.getElem_cons_succ, List.getElem_cons_zero, Act.put, List.setIfInBounds_toArray, List.set_cons_zero, List.set_cons_succ]
      refine wpAnyH_ready (rs := [16, 20]) (by kernel_rfl) (by simp) (AllReadyH.cons rfl (fun K hK => ?_) (AllReadyH.cons rfl (fun K hK => ?_) AllReadyH.nil))
      · go_simp
        refine (findSlotI_any _ _ _ t xm xr xs _ (HT7.out.below HD.out) htn HWX.out).mono ?_
        rintro e w9 ⟨rfl, b9⟩
        rw [HFX.out]
        dsimp only [dsVal]
        have HC := Lib.hid (below_two HD.out b9); clear b9
        go_wp2_with fail
        refine hK.out _ _ ?_ (fun hHeld => ?_)
        · exact ⟨(HIN.out _ HC.out).c0, (HIN.out _ HC.out).c1, (HIN.out _ HC.out).c2⟩
        clear hK K
        try simp only [List.getElem_toArray, List.getElem_cons_succ, List.getElem_cons_zero, Act.put, List.setIfInBounds_toArray, List.set_cons_zero, List.set_cons_succ]
        refine wpAnyH_take (i := 17) (v := ?_) rfl (by kernel_rfl) (by kernel_rfl) (by kernel_rfl) (fun _ _ _ h => h) (Or.inl ⟨by rfl, ?_⟩) (by assumption) ?_
        rotate_left
        · (intro w hSw; (try dsimp only at hSw); go_simp; (try with_reducible rfl))
        try simp only [List.getElem_toArray, List.getElem_cons_succ, List.getElem_cons_zero, Act.put, List.setIfInBounds_toArray, List.set_cons_zero, List.set_cons_succ]
        refine wpAnyH_take (i := 18) (v := ?_) rfl (by kernel_rfl) (by kernel_rfl) (by kernel_rfl) (fun _ _ _ h => h) (Or.inl ⟨by rfl, ?_⟩) (by assumption) ?_
        rotate_left
        · (intro w hSw; (try dsimp only at hSw); go_simp; (try with_reducible rfl))
        try simp only [List.getElem_toArray, List.getElem_cons_succ, List.getElem_cons_zero, Act.put, List.setIfInBounds_toArray, List.set_cons_zero, List.set_cons_succ]
        refine wpAnyH_take (i := 19) (v := ?_) rfl (by kernel_rfl) (by kernel_rfl) (by kernel_rfl) (fun _ _ _ h => h) (Or.inl ⟨by rfl, ?_⟩) (by assumption) ?_
        rotate_left
        · (intro w hSw; (try dsimp only at hSw); go_simp; (try with_reducible rfl))
        try simp only [List.getElem_toArray, List.getElem_cons_succ, List.getElem_cons_zero, Act.put, List.setIfInBounds_toArray, List.set_cons_zero, List.set_cons_succ]
        have HE := Lib.hid (below_two HC.out ((Below.refl _ _).alloc (Nat.le_refl _) (.cells #[.int .i64 0, .int .i64 0, .int .i64 0, .int .i64 0, .bool false] 36)))
        have XB := Lib.hid (DescAt.new (T := 36) (n := 0) (a := 0) (z := 0) (u := 0) (c := false) w9)
        refine wpAnyH_ready (rs := [20]) (by kernel_rfl) (by simp) (AllReadyH.cons rfl (fun K hK => ?_) AllReadyH.nil)
        go_simp
        have hJ : w7.heap.size ≤ w9.heap.size := HC.out.size
        generalize w9.heap.size = J at XB hJ ⊢
        generalize w9.alloc (.cells #[.int .i64 0, .int .i64 0, .int .i64 0, .int .i64 0, .bool false] 36) = wa at HE XB ⊢
        refine hK.out _ _ ?_ (fun hHeld => ?_)
        · exact ⟨(HIN.out _ HE.out).c0, (HIN.out _ HE.out).c1, (HIN.out _ HE.out).c2⟩
        clear hK K HC
        try simp only [List.getElem_toArray, List.getElem_cons_succ, List.getElem_cons_zero, Act.put, List.setIfInBounds_toArray, List.set_cons_zero, List.set_cons_succ]
        obtain ⟨z0, z1, z2, z3, z4⟩ := desc_cells XB.out
        have f0 := XB.out.f 0; have f1 := XB.out.f 1; have f2 := XB.out.f 2; have f3 := XB.out.f 3; have f4 := XB.out.f 4
        refine wpAnyH_ready (rs := [21]) (by kernel_rfl) (by simp) (AllReadyH.cons rfl (fun K hK => ?_) AllReadyH.nil)
        go_simp
        clear z0 z1 z2 z3 z4 f0 f1 f2 f3 f4
        have HE3 := Lib.hid (HE.out.trans (below_desc (b := J) hJ y0 y1 y2 y3 y4)); have XB3 := Lib.hid (XB.out.five y0 y1 y2 y3 y4); clear HE XB
        unfold setDesc at HE3 XB3
        generalize ((((wa.setCell ⟨J, 0, none⟩ (.int .i64 y0)).setCell ⟨J, 1, none⟩ (.int .i64 y1)).setCell ⟨J, 2, none⟩ (.int .i64 y2)).setCell ⟨J, 3, none⟩ (.int .i64 y3)).setCell ⟨J, 4, none⟩ (.bool y4) = wb at HE3 XB3 ⊢
        have HE := HE3; have XB := XB3; clear HE3 XB3
        refine hK.out _ _ ?_ (fun hHeld => ?_)
        · exact ⟨(HIN.out _ HE.out).c0, (HIN.out _ HE.out).c1, (HIN.out _ HE.out).c2⟩
        clear hK K
        try simp only [List.getElem_toArray, List.getElem_cons_succ, List.getElem_cons_zero, Act.put, List.setIfInBounds_toArray, List.set_cons_zero, List.set_cons_succ]
        refine wpAnyH_take (i := 22) (v := ?_) rfl (by kernel_rfl) (by kernel_rfl) (by kernel_rfl) (fun _ _ _ h => h) (Or.inl ⟨by rfl, ?_⟩) (by assumption) ?_
        rotate_left
        · (intro w hSw; (try dsimp only at hSw); go_simp; (try with_reducible rfl))
        try simp only [List.getElem_toArray, List.getElem_cons_succ, List.getElem_cons_zero, Act.put, List.setIfInBounds_toArray, List.set_cons_zero, List.set_cons_succ]
        refine wpAnyH_done (by kernel_rfl) ?_ _
        go_upto_region 17 with fail
        have HE2 := Lib.hid (HE.out.trans (Below.drew (Below.refl _ _))); have XB2 := Lib.hid (XB.out.below (Below.drew (Below.refl _ _)) XB.out.lt); clear HE XB
        refine wp_region_held_drew (S := fun w' => w'.cell? ⟨J, 0, none⟩ = some (Value.int .i64 y0) ∧ w'.cell? ⟨J, 1, none⟩ = some (Value.int .i64 y1) ∧ w'.cell? ⟨J, 2, none⟩ = some (Value.int .i64 y2) ∧ w'.cell? ⟨J, 3, none⟩ = some (Value.int .i64 y3) ∧ w'.cell? ⟨J, 4, none⟩ = some (Value.bool y4) ∧ w'.cell? ⟨b, off + k * 8 + 3, none⟩ = some (Value.int .i64 y0) ∧ w'.cell? ⟨b, off + k * 8 + 4, none⟩ = some (Value.int .i64 y1) ∧ w'.cell? ⟨b, off + k * 8 + 5, none⟩ = some (Value.int .i64 y2) ∧ w'.cell? ⟨b, off + k * 8 + 6, none⟩ = some (Value.int .i64 y3) ∧ w'.cell? ⟨b, off + k * 8 + 7, none⟩ = some (Value.bool y4)) (by kernel_rfl) (⟨XB2.out.c0, XB2.out.c1, XB2.out.c2, XB2.out.c3, XB2.out.c4, (HIN.out _ HE2.out).c3, (HIN.out _ HE2.out).c4, (HIN.out _ HE2.out).c5, (HIN.out _ HE2.out).c6, (HIN.out _ HE2.out).c7⟩) (fun hHeld => ?_)
        generalize wb.drew = wz at HE2 XB2 hHeld ⊢
        refine wpAnyH_take (i := 0) (v := ?_) rfl (by kernel_rfl) (by kernel_rfl) (by kernel_rfl) (fun _ _ _ h => h) (Or.inl ⟨by rfl, ?_⟩) (by assumption) ?_
        rotate_left
        · (intro w hSw; (try dsimp only at hSw); go_simp; (try with_reducible rfl))
        try simp only [List.getElem_toArray, List.getElem_cons_succ, List.getElem_cons_zero, Act.put, List.setIfInBounds_toArray, List.set_cons_zero, List.set_cons_succ]
        refine wpAnyH_take (i := 1) (v := ?_) rfl (by kernel_rfl) (by kernel_rfl) (by kernel_rfl) (fun _ _ _ h => h) (Or.inl ⟨by rfl, ?_⟩) (by assumption) ?_
        rotate_left
        · (intro w hSw; (try dsimp only at hSw); go_simp; (try with_reducible rfl))
        try simp only [List.getElem_toArray, List.getElem_cons_succ, List.getElem_cons_zero, Act.put, List.setIfInBounds_toArray, List.set_cons_zero, List.set_cons_succ]
        refine wpAnyH_take (i := 2) (v := ?_) rfl (by kernel_rfl) (by kernel_rfl) (by kernel_rfl) (fun _ _ _ h => h) (Or.inl ⟨by rfl, ?_⟩) (by assumption) ?_
        rotate_left
        · (intro w hSw; (try dsimp only at hSw); go_simp; (try with_reducible rfl))
        try simp only [List.getElem_toArray, List.getElem_cons_succ, List.getElem_cons_zero, Act.put, List.setIfInBounds_toArray, List.set_cons_zero, List.set_cons_succ]
        refine wpAnyH_take (i := 3) (v := ?_) rfl (by kernel_rfl) (by kernel_rfl) (by kernel_rfl) (fun _ _ _ h => h) (Or.inl ⟨by rfl, ?_⟩) (by assumption) ?_
        rotate_left
        · (intro w hSw; (try dsimp only at hSw); go_simp; (try with_reducible rfl))
        try simp only [List.getElem_toArray, List.getElem_cons_succ, List.getElem_cons_zero, Act.put, List.setIfInBounds_toArray, List.set_cons_zero, List.set_cons_succ]
        refine wpAnyH_take (i := 4) (v := ?_) rfl (by kernel_rfl) (by kernel_rfl) (by kernel_rfl) (fun _ _ _ h => h) (Or.inl ⟨by rfl, ?_⟩) (by assumption) ?_
        rotate_left
        · (intro w hSw; (try dsimp only at hSw); go_simp; (try with_reducible rfl))
        try simp only [List.getElem_toArray, List.getElem_cons_succ, List.getElem_cons_zero, Act.put, List.setIfInBounds_toArray, List.set_cons_zero, List.set_cons_succ]
        refine wpAnyH_take (i := 5) (v := ?_) rfl (by kernel_rfl) (by kernel_rfl) (by kernel_rfl) (fun _ _ _ h => h) (Or.inl ⟨by rfl, ?_⟩) (by assumption) ?_
        rotate_left
        · (intro w hSw; (try dsimp only at hSw); go_simp; (try with_reducible rfl))
        try simp only [List.getElem_toArray, List.getElem_cons_succ, List.getElem_cons_zero, Act.put, List.setIfInBounds_toArray, List.set_cons_zero, List.set_cons_succ]
        refine wpAnyH_take (i := 6) (v := ?_) rfl (by kernel_rfl) (by kernel_rfl) (by kernel_rfl) (fun _ _ _ h => h) (Or.inl ⟨by rfl, ?_⟩) (by assumption) ?_
        rotate_left
        · (intro w hSw; (try dsimp only at hSw); go_simp; (try with_reducible rfl))
        try simp only [List.getElem_toArray, List.getElem_cons_succ, List.getElem_cons_zero, Act.put, List.setIfInBounds_toArray, List.set_cons_zero, List.set_cons_succ]
        refine wpAnyH_take (i := 7) (v := ?_) rfl (by kernel_rfl) (by kernel_rfl) (by kernel_rfl) (fun _ _ _ h => h) (Or.inl ⟨by rfl, ?_⟩) (by assumption) ?_
        rotate_left
        · (intro w hSw; (try dsimp only at hSw); go_simp; (try with_reducible rfl))
        try simp only [List.getElem_toArray, List.getElem_cons_succ, List.getElem_cons_zero, Act.put, List.setIfInBounds_toArray, List.set_cons_zero, List.set_cons_succ]
        refine wpAnyH_take (i := 8) (v := ?_) rfl (by kernel_rfl) (by kernel_rfl) (by kernel_rfl) (fun _ _ _ h => h) (Or.inl ⟨by rfl, ?_⟩) (by assumption) ?_
        rotate_left
        · (intro w hSw; (try dsimp only at hSw); go_simp; (try with_reducible rfl))
        try simp only [List.getElem_toArray, List.getElem_cons_succ, List.getElem_cons_zero, Act.put, List.setIfInBounds_toArray, List.set_cons_zero, List.set_cons_succ]
        refine wpAnyH_take (i := 9) (v := ?_) rfl (by kernel_rfl) (by kernel_rfl) (by kernel_rfl) (fun _ _ _ h => h) (Or.inl ⟨by rfl, ?_⟩) (by assumption) ?_
        rotate_left
        · (intro w hSw; (try dsimp only at hSw); go_simp; (try with_reducible rfl))
        try simp only [List.getElem_toArray, List.getElem_cons_succ, List.getElem_cons_zero, Act.put, List.setIfInBounds_toArray, List.set_cons_zero, List.set_cons_succ]
        refine wpAnyH_take (i := 10) (v := ?_) rfl (by kernel_rfl) (by kernel_rfl) (by kernel_rfl) (fun _ _ _ h => h) (Or.inl ⟨by rfl, ?_⟩) (by assumption) ?_
        rotate_left
        · (intro w hSw; (try dsimp only at hSw); go_simp; (try with_reducible rfl))
        try simp only [List.getElem_toArray, List.getElem_cons_succ, List.getElem_cons_zero, Act.put, List.setIfInBounds_toArray, List.set_cons_zero, List.set_cons_succ]
        refine wpAnyH_done (by kernel_rfl) ?_ _
        go_wp2_with fail
        go_roundw
        case rel => exact ⟨k + 1, by go_num, by omega, HE2.out⟩
        case measure => simp [intOf]; omega
      · go_simp
        have HE := Lib.hid (HD.out.trans ((Below.refl _ _).alloc HD.out.size (.cells #[.int .i64 0, .int .i64 0, .int .i64 0, .int .i64 0, .bool false] 36)))
        have XA := Lib.hid (DescAt.new (T := 36) (n := 0) (a := 0) (z := 0) (u := 0) (c := false) wd)
        have hJ : w7.heap.size ≤ wd.heap.size := HD.out.size
        generalize wd.heap.size = J at XA hJ ⊢
        generalize wd.alloc (.cells #[.int .i64 0, .int .i64 0, .int .i64 0, .int .i64 0, .bool false] 36) = wa at HE XA ⊢
        refine hK.out _ _ ?_ (fun hHeld => ?_)
        · exact ⟨(HIN.out _ HE.out).c0, (HIN.out _ HE.out).c1, (HIN.out _ HE.out).c2⟩
        clear hK K HD
        try simp only [List.getElem_toArray, List.getElem_cons_succ, List.getElem_cons_zero, Act.put, List.setIfInBounds_toArray, List.set_cons_zero, List.set_cons_succ]
        refine wpAnyH_ready (rs := [16]) (by kernel_rfl) (by simp) (AllReadyH.cons rfl (fun K hK => ?_) AllReadyH.nil)
        go_simp
        refine (findSlotI_any _ _ _ t xm xr xs _ (HT7.out.below HE.out) htn HWX.out).mono ?_
        rintro e w9 ⟨rfl, b9⟩
        rw [HFX.out]
        dsimp only [dsVal]
        have HC := Lib.hid (below_two HE.out b9); have XB := Lib.hid (XA.out.below b9 XA.out.lt); clear b9 HE XA
        go_wp2_with fail
        refine hK.out _ _ ?_ (fun hHeld => ?_)
        · exact ⟨(HIN.out _ HC.out).c0, (HIN.out _ HC.out).c1, (HIN.out _ HC.out).c2⟩
        clear hK K
        try simp only [List.getElem_toArray, List.getElem_cons_succ, List.getElem_cons_zero, Act.put, List.setIfInBounds_toArray, List.set_cons_zero, List.set_cons_succ]
        have HE := HC; clear HC
        refine wpAnyH_take (i := 17) (v := ?_) rfl (by kernel_rfl) (by kernel_rfl) (by kernel_rfl) (fun _ _ _ h => h) (Or.inl ⟨by rfl, ?_⟩) (by assumption) ?_
        rotate_left
        · (intro w hSw; (try dsimp only at hSw); go_simp; (try with_reducible rfl))
        try simp only [List.getElem_toArray, List.getElem_cons_succ, List.getElem_cons_zero, Act.put, List.setIfInBounds_toArray, List.set_cons_zero, List.set_cons_succ]
        refine wpAnyH_take (i := 18) (v := ?_) rfl (by kernel_rfl) (by kernel_rfl) (by kernel_rfl) (fun _ _ _ h => h) (Or.inl ⟨by rfl, ?_⟩) (by assumption) ?_
        rotate_left
        · (intro w hSw; (try dsimp only at hSw); go_simp; (try with_reducible rfl))
        try simp only [List.getElem_toArray, List.getElem_cons_succ, List.getElem_cons_zero, Act.put, List.setIfInBounds_toArray, List.set_cons_zero, List.set_cons_succ]
        refine wpAnyH_take (i := 19) (v := ?_) rfl (by kernel_rfl) (by kernel_rfl) (by kernel_rfl) (fun _ _ _ h => h) (Or.inl ⟨by rfl, ?_⟩) (by assumption) ?_
        rotate_left
        · (intro w hSw; (try dsimp only at hSw); go_simp; (try with_reducible rfl))
        try simp only [List.getElem_toArray, List.getElem_cons_succ, List.getElem_cons_zero, Act.put, List.setIfInBounds_toArray, List.set_cons_zero, List.set_cons_succ]
        obtain ⟨z0, z1, z2, z3, z4⟩ := desc_cells XB.out
        have f0 := XB.out.f 0; have f1 := XB.out.f 1; have f2 := XB.out.f 2; have f3 := XB.out.f 3; have f4 := XB.out.f 4
        refine wpAnyH_ready (rs := [21]) (by kernel_rfl) (by simp) (AllReadyH.cons rfl (fun K hK => ?_) AllReadyH.nil)
        go_simp
        clear z0 z1 z2 z3 z4 f0 f1 f2 f3 f4
        have HE3 := Lib.hid (HE.out.trans (below_desc (b := J) hJ y0 y1 y2 y3 y4)); have XB3 := Lib.hid (XB.out.five y0 y1 y2 y3 y4); clear HE XB
        unfold setDesc at HE3 XB3
        generalize ((((w9.setCell ⟨J, 0, none⟩ (.int .i64 y0)).setCell ⟨J, 1, none⟩ (.int .i64 y1)).setCell ⟨J, 2, none⟩ (.int .i64 y2)).setCell ⟨J, 3, none⟩ (.int .i64 y3)).setCell ⟨J, 4, none⟩ (.bool y4) = wb at HE3 XB3 ⊢
        have HE := HE3; have XB := XB3; clear HE3 XB3
        refine hK.out _ _ ?_ (fun hHeld => ?_)
        · exact ⟨(HIN.out _ HE.out).c0, (HIN.out _ HE.out).c1, (HIN.out _ HE.out).c2⟩
        clear hK K
        try simp only [List.getElem_toArray, List.getElem_cons_succ, List.getElem_cons_zero, Act.put, List.setIfInBounds_toArray, List.set_cons_zero, List.set_cons_succ]
        refine wpAnyH_take (i := 22) (v := ?_) rfl (by kernel_rfl) (by kernel_rfl) (by kernel_rfl) (fun _ _ _ h => h) (Or.inl ⟨by rfl, ?_⟩) (by assumption) ?_
        rotate_left
        · (intro w hSw; (try dsimp only at hSw); go_simp; (try with_reducible rfl))
        try simp only [List.getElem_toArray, List.getElem_cons_succ, List.getElem_cons_zero, Act.put, List.setIfInBounds_toArray, List.set_cons_zero, List.set_cons_succ]
        refine wpAnyH_done (by kernel_rfl) ?_ _
        go_upto_region 17 with fail
        have HE2 := Lib.hid (HE.out.trans (Below.drew (Below.refl _ _))); have XB2 := Lib.hid (XB.out.below (Below.drew (Below.refl _ _)) XB.out.lt); clear HE XB
        refine wp_region_held_drew (S := fun w' => w'.cell? ⟨J, 0, none⟩ = some (Value.int .i64 y0) ∧ w'.cell? ⟨J, 1, none⟩ = some (Value.int .i64 y1) ∧ w'.cell? ⟨J, 2, none⟩ = some (Value.int .i64 y2) ∧ w'.cell? ⟨J, 3, none⟩ = some (Value.int .i64 y3) ∧ w'.cell? ⟨J, 4, none⟩ = some (Value.bool y4) ∧ w'.cell? ⟨b, off + k * 8 + 3, none⟩ = some (Value.int .i64 y0) ∧ w'.cell? ⟨b, off + k * 8 + 4, none⟩ = some (Value.int .i64 y1) ∧ w'.cell? ⟨b, off + k * 8 + 5, none⟩ = some (Value.int .i64 y2) ∧ w'.cell? ⟨b, off + k * 8 + 6, none⟩ = some (Value.int .i64 y3) ∧ w'.cell? ⟨b, off + k * 8 + 7, none⟩ = some (Value.bool y4)) (by kernel_rfl) (⟨XB2.out.c0, XB2.out.c1, XB2.out.c2, XB2.out.c3, XB2.out.c4, (HIN.out _ HE2.out).c3, (HIN.out _ HE2.out).c4, (HIN.out _ HE2.out).c5, (HIN.out _ HE2.out).c6, (HIN.out _ HE2.out).c7⟩) (fun hHeld => ?_)
        generalize wb.drew = wz at HE2 XB2 hHeld ⊢
        refine wpAnyH_take (i := 0) (v := ?_) rfl (by kernel_rfl) (by kernel_rfl) (by kernel_rfl) (fun _ _ _ h => h) (Or.inl ⟨by rfl, ?_⟩) (by assumption) ?_
        rotate_left
        · (intro w hSw; (try dsimp only at hSw); go_simp; (try with_reducible rfl))
        try simp only [List.getElem_toArray, List.getElem_cons_succ, List.getElem_cons_zero, Act.put, List.setIfInBounds_toArray, List.set_cons_zero, List.set_cons_succ]
        refine wpAnyH_take (i := 1) (v := ?_) rfl (by kernel_rfl) (by kernel_rfl) (by kernel_rfl) (fun _ _ _ h => h) (Or.inl ⟨by rfl, ?_⟩) (by assumption) ?_
        rotate_left
        · (intro w hSw; (try dsimp only at hSw); go_simp; (try with_reducible rfl))
        try simp only [List.getElem_toArray, List.getElem_cons_succ, List.getElem_cons_zero, Act.put, List.setIfInBounds_toArray, List.set_cons_zero, List.set_cons_succ]
        refine wpAnyH_take (i := 2) (v := ?_) rfl (by kernel_rfl) (by kernel_rfl) (by kernel_rfl) (fun _ _ _ h => h) (Or.inl ⟨by rfl, ?_⟩) (by assumption) ?_
        rotate_left
        · (intro w hSw; (try dsimp only at hSw); go_simp; (try with_reducible rfl))
        try simp only [List.getElem_toArray, List.getElem_cons_succ, List.getElem_cons_zero, Act.put, List.setIfInBounds_toArray, List.set_cons_zero, List.set_cons_succ]
        refine wpAnyH_take (i := 3) (v := ?_) rfl (by kernel_rfl) (by kernel_rfl) (by kernel_rfl) (fun _ _ _ h => h) (Or.inl ⟨by rfl, ?_⟩) (by assumption) ?_
        rotate_left
        · (intro w hSw; (try dsimp only at hSw); go_simp; (try with_reducible rfl))
        try simp only [List.getElem_toArray, List.getElem_cons_succ, List.getElem_cons_zero, Act.put, List.setIfInBounds_toArray, List.set_cons_zero, List.set_cons_succ]
        refine wpAnyH_take (i := 4) (v := ?_) rfl (by kernel_rfl) (by kernel_rfl) (by kernel_rfl) (fun _ _ _ h => h) (Or.inl ⟨by rfl, ?_⟩) (by assumption) ?_
        rotate_left
        · (intro w hSw; (try dsimp only at hSw); go_simp; (try with_reducible rfl))
        try simp only [List.getElem_toArray, List.getElem_cons_succ, List.getElem_cons_zero, Act.put, List.setIfInBounds_toArray, List.set_cons_zero, List.set_cons_succ]
        refine wpAnyH_take (i := 5) (v := ?_) rfl (by kernel_rfl) (by kernel_rfl) (by kernel_rfl) (fun _ _ _ h => h) (Or.inl ⟨by rfl, ?_⟩) (by assumption) ?_
        rotate_left
        · (intro w hSw; (try dsimp only at hSw); go_simp; (try with_reducible rfl))
        try simp only [List.getElem_toArray, List.getElem_cons_succ, List.getElem_cons_zero, Act.put, List.setIfInBounds_toArray, List.set_cons_zero, List.set_cons_succ]
        refine wpAnyH_take (i := 6) (v := ?_) rfl (by kernel_rfl) (by kernel_rfl) (by kernel_rfl) (fun _ _ _ h => h) (Or.inl ⟨by rfl, ?_⟩) (by assumption) ?_
        rotate_left
        · (intro w hSw; (try dsimp only at hSw); go_simp; (try with_reducible rfl))
        try simp only [List.getElem_toArray, List.getElem_cons_succ, List.getElem_cons_zero, Act.put, List.setIfInBounds_toArray, List.set_cons_zero, List.set_cons_succ]
        refine wpAnyH_take (i := 7) (v := ?_) rfl (by kernel_rfl) (by kernel_rfl) (by kernel_rfl) (fun _ _ _ h => h) (Or.inl ⟨by rfl, ?_⟩) (by assumption) ?_
        rotate_left
        · (intro w hSw; (try dsimp only at hSw); go_simp; (try with_reducible rfl))
        try simp only [List.getElem_toArray, List.getElem_cons_succ, List.getElem_cons_zero, Act.put, List.setIfInBounds_toArray, List.set_cons_zero, List.set_cons_succ]
        refine wpAnyH_take (i := 8) (v := ?_) rfl (by kernel_rfl) (by kernel_rfl) (by kernel_rfl) (fun _ _ _ h => h) (Or.inl ⟨by rfl, ?_⟩) (by assumption) ?_
        rotate_left
        · (intro w hSw; (try dsimp only at hSw); go_simp; (try with_reducible rfl))
        try simp only [List.getElem_toArray, List.getElem_cons_succ, List.getElem_cons_zero, Act.put, List.setIfInBounds_toArray, List.set_cons_zero, List.set_cons_succ]
        refine wpAnyH_take (i := 9) (v := ?_) rfl (by kernel_rfl) (by kernel_rfl) (by kernel_rfl) (fun _ _ _ h => h) (Or.inl ⟨by rfl, ?_⟩) (by assumption) ?_
        rotate_left
        · (intro w hSw; (try dsimp only at hSw); go_simp; (try with_reducible rfl))
        try simp only [List.getElem_toArray, List.getElem_cons_succ, List.getElem_cons_zero, Act.put, List.setIfInBounds_toArray, List.set_cons_zero, List.set_cons_succ]
        refine wpAnyH_take (i := 10) (v := ?_) rfl (by kernel_rfl) (by kernel_rfl) (by kernel_rfl) (fun _ _ _ h => h) (Or.inl ⟨by rfl, ?_⟩) (by assumption) ?_
        rotate_left
        · (intro w hSw; (try dsimp only at hSw); go_simp; (try with_reducible rfl))
        try simp only [List.getElem_toArray, List.getElem_cons_succ, List.getElem_cons_zero, Act.put, List.setIfInBounds_toArray, List.set_cons_zero, List.set_cons_succ]
        refine wpAnyH_done (by kernel_rfl) ?_ _
        go_wp2_with fail
        go_roundw
        case rel => exact ⟨k + 1, by go_num, by omega, HE2.out⟩
        case measure => simp [intOf]; omega
    · have hki : ¬ (k : Int) < (n : Int) := by omega
      go_wp2_with fail
      go_ret
      exact ⟨rfl, HBW.out.trans (HB.out.mono HBW.out.size)⟩


end Go.Proofs.Ytggnoeeaoligdaa.fnFindSlots
