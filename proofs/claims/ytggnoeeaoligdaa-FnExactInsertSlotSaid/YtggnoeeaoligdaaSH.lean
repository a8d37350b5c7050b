/-
  Chapter 12: l12Find and FindSlot of the model; SlotsOfNode of both.
-/
import Derived.Test.YtggnoeeaoligdaaSG
import Derived.Test.YtggnoeeaoligdaaSB
namespace Go.Proofs.Ytggnoeeaoligdaa
open Go.RowKit Go.Maps

/-- The place of the first entry of a slot, or -1. -/
def placeS (t : List Sl) (m r s : Int) : Int := match t.findIdx? (sameSl m r s) with
  | some i => (i : Int)
  | none => -1
theorem placeS_at {t : List Sl} {m r s : Int} {k : Nat} (hk : k < t.length) (hall : ∀ j, j < k → sameSl m r s (slOf t j) = false) (h : sameSl m r s (slOf t k) = true) : placeS t m r s = (k : Int) := by
  have : t.findIdx? (sameSl m r s) = some k := by
    rw [List.findIdx?_eq_some_iff_getElem]
    refine ⟨hk, by rw [← slOf_get hk]; exact h, fun j hj => ?_⟩
    rw [← slOf_get (by omega), hall j hj]
    simp
  unfold placeS
  rw [this]
theorem placeS_none {t : List Sl} {m r s : Int} (hall : ∀ j, j < t.length → sameSl m r s (slOf t j) = false) : placeS t m r s = -1 := by
  have : t.findIdx? (sameSl m r s) = none := by
    rw [List.findIdx?_eq_none_iff]
    intro x hx
    obtain ⟨i, hi, rfl⟩ := mem_slOf hx
    exact hall i hi
  unfold placeS
  rw [this]
theorem placeS_case (t : List Sl) (m r s : Int) : (placeS t m r s = -1 ∧ t.find? (sameSl m r s) = none) ∨ ∃ k, k < t.length ∧ placeS t m r s = (k : Int) ∧ t.find? (sameSl m r s) = some (slOf t k) := by
  unfold placeS
  rcases h : t.findIdx? (sameSl m r s) with _ | k
  · refine .inl ⟨rfl, List.find?_eq_none.2 fun x hx => ?_⟩
    have := List.findIdx?_eq_none_iff.1 h x hx
    simp [this]
  · obtain ⟨hk, h1, h2⟩ := List.findIdx?_eq_some_iff_getElem.1 h
    refine .inr ⟨k, hk, rfl, ?_⟩
    rw [List.find?_eq_some_iff_getElem]
    refine ⟨by rw [slOf_get hk]; exact h1, k, hk, (slOf_get hk).symm, fun j hj => ?_⟩
    have := h2 j hj
    simpa using this
set_option maxRecDepth 100000 in
set_option maxHeartbeats 2000000 in
theorem l12Find_any (ao : Option Addr) (n cap : Nat) (t : List Sl) (m r s : Int) (w : World) (hr : RdE w ao n t) (hn : n ≤ 1048576) :
    Calls Try.prog 93 #[.slice ao n cap, .int .i64 m, .int .i64 r, .int .i64 s] w fun e w' => e = .returned (.int .i64 (placeS t m r s)) ∧ w = w' := by
  have HL := Lib.hid hr.len
  have HR := Lib.hid hr
  clear hr
  go_enter Try.func93, Try.ntmps93
  go_wp2
  go_loopw [9] (fun i wr => ∃ k : Nat, k ≤ n ∧ i = .int .i64 k ∧ wr = w ∧ Hid (∀ j, j < k → sameSl m r s (slOf t j) = false)) (fun i _ => n - (intOf i).toNat)
  case atStart => exact ⟨0, Nat.zero_le _, rfl, rfl, fun i h => absurd h (by omega)⟩
  case round =>
    obtain ⟨k, hk, rfl, rfl, hall⟩ := hrel
    by_cases hlt : k < n
    · obtain ⟨b, off, e0, hg, hx⟩ := HR.out.at hlt
      subst e0
      have HAT := Lib.hid (fun h => placeS_at (t := t) (m := m) (r := r) (s := s) (k := k) (by rw [HL.out]; exact hlt) hall.out h)
      have HNX := Lib.hid (fun (h : sameSl m r s (slOf t k) = false) j (hj : j < k + 1) => (by
        rcases Nat.lt_or_ge j k with hl | hl
        · exact hall.out j hl
        · rw [show j = k from by omega]; exact h : sameSl m r s (slOf t j) = false))
      obtain ⟨q0, q1, q2, -, -, -, -, -⟩ := hx.all8
      obtain ⟨x, hxe⟩ : ∃ x, x = slOf t k := ⟨_, rfl⟩
      rw [← hxe] at q0 q1 q2 HAT HNX
      clear hx hxe hall hg
      by_cases h0 : x.mode = m
      · by_cases h1 : x.round = r
        · by_cases h2 : x.slot = s
          · have HF := Lib.hid (HAT.out (by simp [sameSl, h0, h1, h2]))
            have t0 : (x.mode == m) = true := by simp [h0]
            have t1 : (x.round == r) = true := by simp [h1]
            have t2 : (x.slot == s) = true := by simp [h2]
            go_wp2
            go_ret
            rw [HF.out]
            exact ⟨rfl, rfl⟩
          · have HF := Lib.hid (HNX.out (by simp [sameSl, h2]))
            have t0 : (x.mode == m) = true := by simp [h0]
            have t1 : (x.round == r) = true := by simp [h1]
            have t2 : (x.slot == s) = false := by simp [h2]
            go_wp2
            go_roundw
            case rel => exact ⟨k + 1, by omega, by go_num, by first | rfl | trivial, HF⟩
            case measure => simp [intOf]; omega
        · have HF := Lib.hid (HNX.out (by simp [sameSl, h1]))
          have t0 : (x.mode == m) = true := by simp [h0]
          have t1 : (x.round == r) = false := by simp [h1]
          go_wp2
          go_roundw
          case rel => exact ⟨k + 1, by omega, by go_num, by first | rfl | trivial, HF⟩
          case measure => simp [intOf]; omega
      · have HF := Lib.hid (HNX.out (by simp [sameSl, h0]))
        have t0 : (x.mode == m) = false := by simp [h0]
        go_wp2
        go_roundw
        case rel => exact ⟨k + 1, by omega, by go_num, by first | rfl | trivial, HF⟩
        case measure => simp [intOf]; omega
    · have hkn : k = n := by omega
      subst hkn
      have HF := Lib.hid (placeS_none (t := t) (m := m) (r := r) (s := s) (by rw [HL.out]; exact hall.out))
      go_wp2
      go_ret
      rw [HF.out]
      exact ⟨rfl, rfl⟩
set_option maxRecDepth 100000 in
set_option maxHeartbeats 2000000 in
theorem findSlotS_any (ao : Option Addr) (n cap : Nat) (t : List Sl) (m r s : Int) (w : World) (hr : RdE w ao n t) (hn : n ≤ 1048576) :
    Calls Try.prog 37 #[.slice ao n cap, .int .i64 m, .int .i64 r, .int .i64 s] w fun e w' => e = .returned (.tuple #[dsVal (findSlot t m r s).1, .int .i64 (findSlot t m r s).2]) ∧ Below w.heap.size w w' := by
  have b0 := (Below.refl w.heap.size w).alloc (Nat.le_refl _) (.cells #[.int .i64 0, .int .i64 0, .int .i64 0, .int .i64 0, .bool false] 36)
  have HIS := Lib.hid (isSlsS_any ao n cap t _ (hr.below b0) hn)
  have HV := Lib.hid (DescAt.new (T := 36) (n := 0) (a := 0) (z := 0) (u := 0) (c := false) w)
  have HB := Lib.hid b0
  have HR := Lib.hid (hr.below b0)
  have HL := Lib.hid hr.len
  clear hr b0
  rcases hi : isSls t with _ | _
  · have HF := Lib.hid (findSlot_no (m := m) (r := r) (s := s) hi)
    go_enter Try.func37, Try.ntmps37
    go_wp2_with fail
    refine HIS.out.mono ?_
    rintro e w1 ⟨rfl, b1⟩
    rw [hi]
    have V1 := HV.out.below b1 HV.out.lt
    have B1 := Lib.hid (below_two HB.out b1)
    have c0 := V1.c0; have c1 := V1.c1; have c2 := V1.c2; have c3 := V1.c3; have c4 := V1.c4
    have f0 := V1.f 0; have f1 := V1.f 1; have f2 := V1.f 2; have f3 := V1.f 3; have f4 := V1.f 4
    have HV1 := Lib.hid V1
    clear V1 b1 HIS
    go_wp2_with fail
    clear c0 c1 c2 c3 c4 f0 f1 f2 f3 f4
    rw [HF.out]
    change bodyPost _ _ _ _ _ (setDesc w1 w.heap.size 0 0 0 0 false)
    have VF := HV1.out.five 0 0 0 0 false
    have BF := B1.out.trans (below_desc (B := w.heap.size) (w := w1) (Nat.le_refl _) 0 0 0 0 false)
    generalize setDesc w1 w.heap.size 0 0 0 0 false = w5 at VF BF ⊢
    have e0 := VF.c0; have e1 := VF.c1; have e2 := VF.c2; have e3 := VF.c3; have e4 := VF.c4
    exact bodyPost_ret (v := .tuple #[dsVal Ds.zero, .int .i64 1]) (by simp [dsVal, Ds.zero, results, Try.results37, go_sem, e0, e1, e2, e3, e4]) rfl ⟨rfl, BF⟩
  have HFI := Lib.hid (fun W (hW : Below (w.alloc (.cells #[.int .i64 0, .int .i64 0, .int .i64 0, .int .i64 0, .bool false] 36)).heap.size (w.alloc (.cells #[.int .i64 0, .int .i64 0, .int .i64 0, .int .i64 0, .bool false] 36)) W) => l12Find_any ao n cap t m r s W (HR.out.below hW) hn)
  rcases placeS_case t m r s with ⟨hp, hf⟩ | ⟨k, hk, hp, hf⟩
  · have HF := Lib.hid (show findSlot t m r s = (Ds.zero, 4) from by unfold findSlot; rw [if_neg (by rw [hi]; simp), hf])
    rw [hp] at HFI
    go_enter Try.func37, Try.ntmps37
    go_wp2_with fail
    refine HIS.out.mono ?_
    rintro e w1 ⟨rfl, b1⟩
    rw [hi]
    have HFC := Lib.hid (HFI.out _ b1)
    have V1 := HV.out.below b1 HV.out.lt
    have B1 := Lib.hid (below_two HB.out b1)
    have c0 := V1.c0; have c1 := V1.c1; have c2 := V1.c2; have c3 := V1.c3; have c4 := V1.c4
    have f0 := V1.f 0; have f1 := V1.f 1; have f2 := V1.f 2; have f3 := V1.f 3; have f4 := V1.f 4
    have HV1 := Lib.hid V1
    clear V1 b1 HIS HFI
    go_wp2_with fail
    refine HFC.out.mono ?_
    rintro e w2 ⟨rfl, rfl⟩
    go_wp2_with fail
    clear c0 c1 c2 c3 c4 f0 f1 f2 f3 f4
    rw [HF.out]
    change bodyPost _ _ _ _ _ (setDesc w1 w.heap.size 0 0 0 0 false)
    have VF := HV1.out.five 0 0 0 0 false
    have BF := B1.out.trans (below_desc (B := w.heap.size) (w := w1) (Nat.le_refl _) 0 0 0 0 false)
    generalize setDesc w1 w.heap.size 0 0 0 0 false = w5 at VF BF ⊢
    have e0 := VF.c0; have e1 := VF.c1; have e2 := VF.c2; have e3 := VF.c3; have e4 := VF.c4
    exact bodyPost_ret (v := .tuple #[dsVal Ds.zero, .int .i64 4]) (by simp [dsVal, Ds.zero, results, Try.results37, go_sem, e0, e1, e2, e3, e4]) rfl ⟨rfl, BF⟩
  · have HF := Lib.hid (show findSlot t m r s = ((slOf t k).desc, 0) from by unfold findSlot; rw [if_neg (by rw [hi]; simp), hf])
    rw [hp] at HFI
    rw [HL.out] at hk
    obtain ⟨b, off, e0, hg, hx⟩ := HR.out.at hk
    subst e0
    generalize slOf t k = x at hx HF
    have hkn : ¬ (k : Int) < 0 := by omega
    have HX := Lib.hid hx; have HG := Lib.hid hg
    clear hx hg
    go_enter Try.func37, Try.ntmps37
    go_wp2_with fail
    refine HIS.out.mono ?_
    rintro e w1 ⟨rfl, b1⟩
    rw [hi]
    have HFC := Lib.hid (HFI.out _ b1)
    have V1 := HV.out.below b1 HV.out.lt
    have B1 := Lib.hid (below_two HB.out b1)
    obtain ⟨-, -, -, q3, q4, q5, q6, q7⟩ := (HX.out.below b1 HG.out).all8
    have c0 := V1.c0; have c1 := V1.c1; have c2 := V1.c2; have c3 := V1.c3; have c4 := V1.c4
    have f0 := V1.f 0; have f1 := V1.f 1; have f2 := V1.f 2; have f3 := V1.f 3; have f4 := V1.f 4
    have HV1 := Lib.hid V1
    clear V1 b1 HIS HFI
    go_wp2_with fail
    refine HFC.out.mono ?_
    rintro e w2 ⟨rfl, rfl⟩
    go_wp2_with fail
    clear c0 c1 c2 c3 c4 f0 f1 f2 f3 f4 q3 q4 q5 q6 q7
    rw [HF.out]
    change bodyPost _ _ _ _ _ (setDesc w1 w.heap.size x.desc.node x.desc.kind x.desc.size x.desc.dur x.desc.chg)
    have VF := HV1.out.five x.desc.node x.desc.kind x.desc.size x.desc.dur x.desc.chg
    have BF := B1.out.trans (below_desc (B := w.heap.size) (w := w1) (Nat.le_refl _) x.desc.node x.desc.kind x.desc.size x.desc.dur x.desc.chg)
    generalize setDesc w1 w.heap.size x.desc.node x.desc.kind x.desc.size x.desc.dur x.desc.chg = w5 at VF BF ⊢
    have e0 := VF.c0; have e1 := VF.c1; have e2 := VF.c2; have e3 := VF.c3; have e4 := VF.c4
    exact bodyPost_ret (v := .tuple #[dsVal x.desc, .int .i64 0]) (by simp [dsVal, results, Try.results37, go_sem, e0, e1, e2, e3, e4]) rfl ⟨rfl, BF⟩
set_option maxRecDepth 100000 in
set_option maxHeartbeats 2000000 in
theorem slotsOfNodeI_any (ao : Option Addr) (n cap : Nat) (t : List Sl) (nd : Int) (w : World) (hr : RdE w ao n t) (hn : n ≤ 1048576) :
    Calls Try.prog 35 #[.slice ao n cap, .int .i64 nd] w (Makes2 2 w (slotsOfNode t nd).1 (slotsOfNode t nd).2) := by
  have HIS := Lib.hid (isSlsI_any ao n cap t w hr hn)
  have HBL := Lib.hid (fun b off (e : ao = some ⟨b, off, none⟩) (h0 : 0 < n) => (by obtain ⟨b', off', e', hb, -⟩ := hr.at h0; cases e.symm.trans e'; exact hb : b < w.heap.size))
  have HL := Lib.hid hr.len
  have HR := Lib.hid hr
  clear hr
  rcases hi : isSls t with _ | _
  · rw [show slotsOfNode t nd = ([], 1) from by unfold slotsOfNode; rw [if_pos hi]]
    go_enter Try.func35, Try.ntmps35
    go_wp2_with fail
    refine HIS.out.mono ?_
    rintro e w1 ⟨rfl, b1⟩
    rw [hi]
    go_wp2_with fail
    go_ret2
    exact ⟨_, rfl, Own.nil_, b1⟩
  rw [show slotsOfNode t nd = (nodeTo t nd t.length, 0) from by unfold slotsOfNode; rw [if_neg (by rw [hi]; simp)]]
  rw [HL.out]
  have HN := Lib.hid (show n ≤ 120 from by have := (isSls_iff.1 hi).1; have := HL.out; omega)
  go_enter Try.func35, Try.ntmps35
  go_wp2_with fail
  refine HIS.out.mono ?_
  rintro e w1 ⟨rfl, b1⟩
  rw [hi]
  have HB1 := Lib.hid b1
  have HR1 := Lib.hid (HR.out.below b1)
  clear b1 HIS HR
  have o0 : Own 2 w1 w.heap.size (.slice none 0 0) (nodeTo t nd 0) := Own.nil_
  have HO0 := Lib.hid o0; clear o0
  go_wp2_with fail
  go_loopw [6, 14] (fun s i wr => ∃ (k : Nat) (v : Value), k ≤ n ∧ v = s ∧ i = .int .i64 k ∧ Hid (Own 2 wr w.heap.size v (nodeTo t nd k)) ∧ Hid (Below w.heap.size w wr) ∧ Hid (RdE wr ao n t)) (fun _ i _ => n - (intOf i).toNat)
  case atStart => exact ⟨0, _, Nat.zero_le _, rfl, rfl, HO0.out, HB1.out, HR1.out⟩
  case round =>
    obtain ⟨k, v, hk, rfl, rfl, HO, HB, HRK⟩ := hrel
    by_cases hlt : k < n
    · obtain ⟨b, off, e0, hg, hx⟩ := HRK.out.at hlt
      subst e0
      have HSU := Lib.hid (nodeTo_succ t nd k)
      have HLE := Lib.hid (show (nodeTo t nd k).length ≤ 120 from by unfold nodeTo; rw [List.length_map]; have := List.length_filter_le (fun i => decide ((slOf t i).desc.node = nd)) (List.range k); rw [List.length_range] at this; have := HN.out; omega)
      obtain ⟨x, hxe⟩ : ∃ x, x = slOf t k := ⟨_, rfl⟩
      rw [← hxe] at hx HSU
      obtain ⟨q0, q1, q2, q3, q4, q5, q6, q7⟩ := hx.all8
      have hk120 : k ≤ 120 := by have := HN.out; omega
      clear hxe
      have bal := (Below.refl wr.heap.size wr).alloc (Nat.le_refl _) (.cells #[.int .i64 x.mode, .int .i64 x.round, .int .i64 x.slot, .int .i64 x.desc.node, .int .i64 x.desc.kind, .int .i64 x.desc.size, .int .i64 x.desc.dur, .bool x.desc.chg] 38)
      have HX1 := Lib.hid (SlBk.new (T := 38) (x := x) wr)
      have HO1 := Lib.hid (HO.out.below bal)
      have HB2 := Lib.hid (below_two HB.out bal)
      have HR2 := Lib.hid (HRK.out.below bal)
      clear bal HO HB HRK hx
      go_upto_region 7 with fail
      clear q0 q1 q2 q3 q4 q5 q6 q7
      generalize wr.alloc (.cells #[.int .i64 x.mode, .int .i64 x.round, .int .i64 x.slot, .int .i64 x.desc.node, .int .i64 x.desc.kind, .int .i64 x.desc.size, .int .i64 x.desc.dur, .bool x.desc.chg] 38) = w2 at HX1 HO1 HB2 HR2 ⊢
      obtain ⟨q0, q1, q2, q3, q4, q5, q6, q7⟩ := HX1.out.all8
      by_cases hnd : x.desc.node = nd
      · have ht : (x.desc.node == nd) = true := by simp [hnd]
        have HF := Lib.hid (show nodeTo t nd (k + 1) = nodeTo t nd k ++ [(k : Int)] from by rw [HSU.out, if_pos hnd])
        have HOA := Lib.hid (HO1.out.below ((Below.refl w2.heap.size w2).alloc (Nat.le_refl _) (.cells #[.int .i64 (k : Int)] 2)))
        have HBA := Lib.hid (HB2.out.alloc HB2.out.size (.cells #[.int .i64 (k : Int)] 2))
        have HRA := Lib.hid (HR2.out.below ((Below.refl w2.heap.size w2).alloc (Nat.le_refl _) (.cells #[.int .i64 (k : Int)] 2)))
        go_wp2_with (at_builtin; go_loud (refine append_list _ rfl (.tmp 24) (.tmp 26) rfl w.heap.size Try.underlying26 info64 v (nodeTo t nd k) rfl HOA.out _ 1 _ [(k : Int)] rfl (rd_one _ _ _) (by have := HLE.out; omega) HBA.out.size ?_); intro v5 w5 o5 b5)
        rw [← HF.out] at o5
        have HO5 := Lib.hid o5
        have HB5 := Lib.hid (HBA.out.trans b5)
        have HR5 := Lib.hid (HRA.out.below2 b5 (fun b' off' e => HBL.out b' off' e (by omega)))
        clear o5 b5 q0 q1 q2 q3 q4 q5 q6 q7
        go_wp2_with fail
        go_roundw
        case rel => exact ⟨k + 1, v5, by omega, rfl, by go_num, HO5, HB5, HR5⟩
        case measure => simp [intOf]; omega
      · have ht : (x.desc.node == nd) = false := by simp [hnd]
        have HF := Lib.hid (show nodeTo t nd (k + 1) = nodeTo t nd k from by rw [HSU.out, if_neg hnd])
        rw [← HF.out] at HO1
        go_wp2_with fail
        clear q0 q1 q2 q3 q4 q5 q6 q7
        go_roundw
        case rel => exact ⟨k + 1, v, by omega, rfl, by go_num, HO1, HB2, HR2⟩
        case measure => simp [intOf]; omega
    · have hkn : k = n := by omega
      subst hkn
      go_wp2_with fail
      go_ret2
      exact ⟨v, rfl, HO.out, HB.out⟩
set_option maxRecDepth 100000 in
set_option maxHeartbeats 2000000 in
theorem slotsOfNodeS_any (ao : Option Addr) (n cap : Nat) (t : List Sl) (nd : Int) (w : World) (hr : RdE w ao n t) (hn : n ≤ 1048576) :
    Calls Try.prog 39 #[.slice ao n cap, .int .i64 nd] w (Makes2 2 w (slotsOfNode t nd).1 (slotsOfNode t nd).2) := by
  have HIS := Lib.hid (isSlsS_any ao n cap t w hr hn)
  have HBL := Lib.hid (fun b off (e : ao = some ⟨b, off, none⟩) (h0 : 0 < n) => (by obtain ⟨b', off', e', hb, -⟩ := hr.at h0; cases e.symm.trans e'; exact hb : b < w.heap.size))
  have HL := Lib.hid hr.len
  have HR := Lib.hid hr
  clear hr
  rcases hi : isSls t with _ | _
  · rw [show slotsOfNode t nd = ([], 1) from by unfold slotsOfNode; rw [if_pos hi]]
    go_enter Try.func39, Try.ntmps39
    go_wp2_with fail
    refine HIS.out.mono ?_
    rintro e w1 ⟨rfl, b1⟩
    rw [hi]
    go_wp2_with fail
    go_ret2
    exact ⟨_, rfl, Own.nil_, b1⟩
  rw [show slotsOfNode t nd = (nodeTo t nd t.length, 0) from by unfold slotsOfNode; rw [if_neg (by rw [hi]; simp)]]
  rw [HL.out]
  have HN := Lib.hid (show n ≤ 120 from by have := (isSls_iff.1 hi).1; have := HL.out; omega)
  go_enter Try.func39, Try.ntmps39
  go_wp2_with fail
  refine HIS.out.mono ?_
  rintro e w1 ⟨rfl, b1⟩
  rw [hi]
  have HB1 := Lib.hid b1
  have HR1 := Lib.hid (HR.out.below b1)
  clear b1 HIS HR
  have o0 : Own 2 (w1.alloc (.cells #[] 2)) w.heap.size (.slice (some ⟨w1.heap.size, 0, none⟩) 0 0) (nodeTo t nd 0) := Own.of_alloc_nil HB1.out.size
  have HO0 := Lib.hid o0; clear o0
  have HB0 := Lib.hid (HB1.out.alloc HB1.out.size (.cells #[] 2))
  have HR0 := Lib.hid (HR1.out.below ((Below.refl w1.heap.size w1).alloc (Nat.le_refl _) (.cells #[] 2)))
  go_wp2_with fail
  go_loopw [6, 7] (fun s i wr => ∃ (k : Nat) (v : Value), k ≤ n ∧ v = s ∧ i = .int .i64 k ∧ Hid (Own 2 wr w.heap.size v (nodeTo t nd k)) ∧ Hid (Below w.heap.size w wr) ∧ Hid (RdE wr ao n t)) (fun _ i _ => n - (intOf i).toNat)
  case atStart => exact ⟨0, _, Nat.zero_le _, rfl, rfl, HO0.out, HB0.out, HR0.out⟩
  case round =>
    obtain ⟨k, v, hk, rfl, rfl, HO, HB, HRK⟩ := hrel
    by_cases hlt : k < n
    · obtain ⟨b, off, e0, hg, hx⟩ := HRK.out.at hlt
      subst e0
      have HSU := Lib.hid (nodeTo_succ t nd k)
      have HLE := Lib.hid (show (nodeTo t nd k).length ≤ 120 from by unfold nodeTo; rw [List.length_map]; have := List.length_filter_le (fun i => decide ((slOf t i).desc.node = nd)) (List.range k); rw [List.length_range] at this; have := HN.out; omega)
      obtain ⟨x, hxe⟩ : ∃ x, x = slOf t k := ⟨_, rfl⟩
      rw [← hxe] at hx HSU
      obtain ⟨q0, q1, q2, q3, q4, q5, q6, q7⟩ := hx.all8
      have hk120 : k ≤ 120 := by have := HN.out; omega
      clear hxe
      have HO1 := HO; have HB2 := HB; have HR2 := HRK
      clear HO HB HRK hx
      generalize wr = w2 at HO1 HB2 HR2 q0 q1 q2 q3 q4 q5 q6 q7 ⊢
      by_cases hnd : x.desc.node = nd
      · have ht : (x.desc.node == nd) = true := by simp [hnd]
        have HF := Lib.hid (show nodeTo t nd (k + 1) = nodeTo t nd k ++ [(k : Int)] from by rw [HSU.out, if_pos hnd])
        have HOA := Lib.hid (HO1.out.below ((Below.refl w2.heap.size w2).alloc (Nat.le_refl _) (.cells #[.int .i64 (k : Int)] 2)))
        have HBA := Lib.hid (HB2.out.alloc HB2.out.size (.cells #[.int .i64 (k : Int)] 2))
        have HRA := Lib.hid (HR2.out.below ((Below.refl w2.heap.size w2).alloc (Nat.le_refl _) (.cells #[.int .i64 (k : Int)] 2)))
        go_wp2_with (at_builtin; go_loud (refine append_list _ rfl (.tmp 26) (.tmp 28) rfl w.heap.size Try.underlying26 info64 v (nodeTo t nd k) rfl HOA.out _ 1 _ [(k : Int)] rfl (rd_one _ _ _) (by have := HLE.out; omega) HBA.out.size ?_); intro v5 w5 o5 b5)
        rw [← HF.out] at o5
        have HO5 := Lib.hid o5
        have HB5 := Lib.hid (HBA.out.trans b5)
        have HR5 := Lib.hid (HRA.out.below2 b5 (fun b' off' e => HBL.out b' off' e (by omega)))
        clear o5 b5 q0 q1 q2 q3 q4 q5 q6 q7
        go_wp2_with fail
        go_roundw
        case rel => exact ⟨k + 1, v5, by omega, rfl, by go_num, HO5, HB5, HR5⟩
        case measure => simp [intOf]; omega
      · have ht : (x.desc.node == nd) = false := by simp [hnd]
        have HF := Lib.hid (show nodeTo t nd (k + 1) = nodeTo t nd k from by rw [HSU.out, if_neg hnd])
        rw [← HF.out] at HO1
        go_wp2_with fail
        clear q0 q1 q2 q3 q4 q5 q6 q7
        go_roundw
        case rel => exact ⟨k + 1, v, by omega, rfl, by go_num, HO1, HB2, HR2⟩
        case measure => simp [intOf]; omega
    · have hkn : k = n := by omega
      subst hkn
      go_wp2_with fail
      go_ret2
      exact ⟨v, rfl, HO.out, HB.out⟩
end Go.Proofs.Ytggnoeeaoligdaa
