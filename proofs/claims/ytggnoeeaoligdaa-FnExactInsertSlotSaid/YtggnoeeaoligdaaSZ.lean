/-
  Chapter 12: InsertSlot of the model.
-/
import Derived.Test.YtggnoeeaoligdaaSY
import Derived.Test.YtggnoeeaoligdaaSH
namespace Go.Proofs.Ytggnoeeaoligdaa
open Go.RowKit

theorem RdE.below3 {w w' : World} {ao : Option Addr} {n B : Nat} {t : List Sl} (h : RdE w ao n t) (hb : Below B w w') (hlt : ∀ b off, ao = some ⟨b, off, none⟩ → 0 < n → b < B) : RdE w' ao n t :=
  ⟨h.len, fun hn => by
    obtain ⟨b, off, e, hc⟩ := h.here hn
    exact ⟨b, off, e, fun i hi => (hc i hi).below hb (hlt b off e hn)⟩⟩
def befTo (t : List Sl) (x : Sl) (k : Nat) : List Sl := (t.take k).filter fun y => decide (cmpSl y x < 0)
def behTo (t : List Sl) (x : Sl) (k : Nat) : List Sl := (t.take k).filter fun y => decide (0 < cmpSl y x)
theorem befTo_succ {t : List Sl} {x : Sl} {k : Nat} (h : k < t.length) : befTo t x (k + 1) = if cmpSl (slOf t k) x < 0 then befTo t x k ++ [slOf t k] else befTo t x k := by
  unfold befTo
  rw [slOf_get h, List.take_succ_eq_append_getElem h, List.filter_append]
  by_cases hc : cmpSl t[k] x < 0 <;> simp [hc]
theorem behTo_succ {t : List Sl} {x : Sl} {k : Nat} (h : k < t.length) : behTo t x (k + 1) = if 0 < cmpSl (slOf t k) x then behTo t x k ++ [slOf t k] else behTo t x k := by
  unfold behTo
  rw [slOf_get h, List.take_succ_eq_append_getElem h, List.filter_append]
  by_cases hc : 0 < cmpSl t[k] x <;> simp [hc]
theorem befTo_all {t : List Sl} {x : Sl} {k : Nat} (h : t.length ≤ k) : befTo t x k = before t x := by unfold befTo before; rw [List.take_of_length_le h]
theorem behTo_all {t : List Sl} {x : Sl} {k : Nat} (h : t.length ≤ k) : behTo t x k = behind t x := by unfold behTo behind; rw [List.take_of_length_le h]
theorem befTo_le {t : List Sl} {x : Sl} {k : Nat} : (befTo t x k).length ≤ k := by
  unfold befTo
  have h1 := List.length_filter_le (fun y => decide (cmpSl y x < 0)) (t.take k)
  rw [List.length_take] at h1
  omega
theorem behTo_le {t : List Sl} {x : Sl} {k : Nat} : (behTo t x k).length ≤ k := by
  unfold behTo
  have h1 := List.length_filter_le (fun y => decide (0 < cmpSl y x)) (t.take k)
  rw [List.length_take] at h1
  omega
theorem place_any {t : List Sl} (m r s : Int) : t.any (sameSl m r s) = decide (0 ≤ placeS t m r s) := by
  rcases placeS_case t m r s with ⟨h1, h2⟩ | ⟨k, hk, h1, h2⟩
  · rw [h1]
    have : t.any (sameSl m r s) = false := List.any_eq_false.2 (List.find?_eq_none.1 h2)
    rw [this]; rfl
  · rw [h1]
    have : t.any (sameSl m r s) = true := List.any_eq_true.2 ⟨_, List.mem_of_find?_eq_some h2, List.find?_some h2⟩
    rw [this]; simp
theorem ins_no1 {t : List Sl} {x : Sl} (h : isSls t = false) : insertSlot t x = ([], 1) := by unfold insertSlot; rw [if_pos h]
theorem ins_no2 {t : List Sl} {x : Sl} (h : isSls t = true) (h2 : isSl x = false) : insertSlot t x = ([], 2) := by unfold insertSlot; rw [if_neg (by rw [h]; simp), if_pos h2]
theorem ins_no5 {t : List Sl} {x : Sl} (h : isSls t = true) (h2 : isSl x = true) (h3 : 0 ≤ placeS t x.mode x.round x.slot) : insertSlot t x = ([], 5) := by
  unfold insertSlot; rw [if_neg (by rw [h]; simp), if_neg (by rw [h2]; simp), place_any, if_pos (by simpa using h3)]
theorem ins_no3 {t : List Sl} {x : Sl} (h : isSls t = true) (h2 : isSl x = true) (h3 : ¬ 0 ≤ placeS t x.mode x.round x.slot) (h4 : t.length = 120) : insertSlot t x = ([], 3) := by
  unfold insertSlot; rw [if_neg (by rw [h]; simp), if_neg (by rw [h2]; simp), place_any, if_neg (by simpa using h3), if_pos h4]
theorem ins_yes {t : List Sl} {x : Sl} (h : isSls t = true) (h2 : isSl x = true) (h3 : ¬ 0 ≤ placeS t x.mode x.round x.slot) (h4 : ¬ t.length = 120) : insertSlot t x = (before t x ++ [x] ++ behind t x, 0) := by
  unfold insertSlot; rw [if_neg (by rw [h]; simp), if_neg (by rw [h2]; simp), place_any, if_neg (by simpa using h3), if_neg h4]; simp
set_option maxRecDepth 100000 in
set_option maxHeartbeats 8000000 in
set_option linter.unusedSimpArgs false in
theorem insertSlotS_any (ao : Option Addr) (n cap : Nat) (t : List Sl) (x : Sl) (w : World) (hr : RdE w ao n t) (hn : n ≤ 1048576) :
    Calls Try.prog 30 #[.slice ao n cap, slVal x] w (MakesE2 38 w (insertSlot t x).1 (insertSlot t x).2) := by
  have b0 := (Below.refl w.heap.size w).alloc (Nat.le_refl _) (.cells #[.int .i64 x.mode, .int .i64 x.round, .int .i64 x.slot, .int .i64 x.desc.node, .int .i64 x.desc.kind, .int .i64 x.desc.size, .int .i64 x.desc.dur, .bool x.desc.chg] 38)
  have HX := Lib.hid (SlBk.new (T := 38) (x := x) w)
  have HBL := Lib.hid (fun b off (e : ao = some ⟨b, off, none⟩) (h0 : 0 < n) => (by obtain ⟨b', off', e', hb, -⟩ := hr.at h0; cases e.symm.trans e'; exact hb : b < w.heap.size))
  have HB := Lib.hid b0
  have HR := Lib.hid (hr.below b0)
  have HR0 := Lib.hid hr
  have HL := Lib.hid hr.len
  have HIS := Lib.hid (isSlsS_any ao n cap t _ (hr.below b0) hn)
  have HI := Lib.hid (fun W => isSlS_any x W)
  have HC := Lib.hid (fun y W => cmpSlS_any y x W)
  clear hr b0
  unfold slVal at HI HC ⊢
  rcases hi : isSls t with _ | _
  · rw [ins_no1 hi]
    go_enter Try.func30, Try.ntmps30
    go_wp2_with fail
    refine HIS.out.mono ?_
    rintro e w1 ⟨rfl, b1⟩
    rw [hi]
    go_wp2_with fail
    go_ret2
    exact ⟨_, rfl, OwnE.nil_, below_two HB.out b1⟩
  rcases hx : isSl x with _ | _
  · rw [ins_no2 hi hx]
    go_enter Try.func30, Try.ntmps30
    go_wp2_with fail
    refine HIS.out.mono ?_
    rintro e w1 ⟨rfl, b1⟩
    rw [hi]
    obtain ⟨q0, q1, q2, q3, q4, q5, q6, q7⟩ := (HX.out.below b1 HX.out.lt).all8
    go_wp2_with fail
    refine (HI.out _).mono ?_
    rintro e w2 ⟨rfl, b2⟩
    rw [hx]
    go_wp2_with fail
    go_ret2
    exact ⟨_, rfl, OwnE.nil_, below_two (below_two HB.out b1) b2⟩
  obtain ⟨pl, hpl⟩ : ∃ v, v = placeS t x.mode x.round x.slot := ⟨_, rfl⟩
  have HFI := Lib.hid (fun W (hW : Below (w.alloc (.cells #[.int .i64 x.mode, .int .i64 x.round, .int .i64 x.slot, .int .i64 x.desc.node, .int .i64 x.desc.kind, .int .i64 x.desc.size, .int .i64 x.desc.dur, .bool x.desc.chg] 38)).heap.size (w.alloc (.cells #[.int .i64 x.mode, .int .i64 x.round, .int .i64 x.slot, .int .i64 x.desc.node, .int .i64 x.desc.kind, .int .i64 x.desc.size, .int .i64 x.desc.dur, .bool x.desc.chg] 38)) W) => (by have h := l12Find_any ao n cap t x.mode x.round x.slot W (HR.out.below hW) hn; rw [← hpl] at h; exact h : Calls Try.prog 93 #[.slice ao n cap, .int .i64 x.mode, .int .i64 x.round, .int .i64 x.slot] W fun e w' => e = .returned (.int .i64 pl) ∧ W = w'))
  by_cases h5 : 0 ≤ pl
  · rw [ins_no5 hi hx (by rw [← hpl]; exact h5)]
    clear hpl
    go_enter Try.func30, Try.ntmps30
    go_wp2_with fail
    refine HIS.out.mono ?_
    rintro e w1 ⟨rfl, b1⟩
    rw [hi]
    obtain ⟨q0, q1, q2, q3, q4, q5, q6, q7⟩ := (HX.out.below b1 HX.out.lt).all8
    go_wp2_with fail
    refine (HI.out _).mono ?_
    rintro e w2 ⟨rfl, b2⟩
    rw [hx]
    clear q0 q1 q2 q3 q4 q5 q6 q7
    have b1' := b1; have b2' := b2
    clear b1 b2
    obtain ⟨q0, q1, q2, q3, q4, q5, q6, q7⟩ := ((HX.out.below b1' HX.out.lt).below b2' (HX.out.below b1' HX.out.lt).lt).all8
    go_wp2_with fail
    refine (HFI.out _ (below_two b1' b2')).mono ?_
    rintro e w3 ⟨rfl, rfl⟩
    have HBE := Lib.hid (below_two (below_two HB.out b1') b2')
    clear q0 q1 q2 q3 q4 q5 q6 q7 b1' b2'
    go_wp2_with fail
    go_ret2
    exact ⟨_, rfl, OwnE.nil_, HBE.out⟩
  have hp0 : ¬ pl ≥ 0 := h5
  by_cases h3 : n = 120
  · rw [ins_no3 hi hx (by rw [← hpl]; exact h5) (by rw [HL.out]; exact h3)]
    have hz : ((n : Int) == 120) = true := by rw [beq_iff_eq]; omega
    clear hpl h5 h3 HBL
    go_enter Try.func30, Try.ntmps30
    go_wp2_with fail
    refine HIS.out.mono ?_
    rintro e w1 ⟨rfl, b1⟩
    rw [hi]
    obtain ⟨q0, q1, q2, q3, q4, q5, q6, q7⟩ := (HX.out.below b1 HX.out.lt).all8
    go_wp2_with fail
    refine (HI.out _).mono ?_
    rintro e w2 ⟨rfl, b2⟩
    rw [hx]
    clear q0 q1 q2 q3 q4 q5 q6 q7
    have b1' := b1; have b2' := b2
    clear b1 b2
    obtain ⟨q0, q1, q2, q3, q4, q5, q6, q7⟩ := ((HX.out.below b1' HX.out.lt).below b2' (HX.out.below b1' HX.out.lt).lt).all8
    go_wp2_with fail
    refine (HFI.out _ (below_two b1' b2')).mono ?_
    rintro e w3 ⟨rfl, rfl⟩
    have HBE := Lib.hid (below_two (below_two HB.out b1') b2')
    clear q0 q1 q2 q3 q4 q5 q6 q7 b1' b2'
    go_wp2_with fail
    go_ret2
    exact ⟨_, rfl, OwnE.nil_, HBE.out⟩
  rw [ins_yes hi hx (by rw [← hpl]; exact h5) (by rw [HL.out]; exact h3)]
  have hz : ((n : Int) == 120) = false := by rw [beq_eq_false_iff_ne]; omega
  have HN := Lib.hid (show n ≤ 120 from by have := (isSls_iff.1 hi).1; have := HL.out; omega)
  clear hpl h5
  go_enter Try.func30, Try.ntmps30
  go_wp2_with fail
  refine HIS.out.mono ?_
  rintro e w1 ⟨rfl, b1⟩
  rw [hi]
  obtain ⟨q0, q1, q2, q3, q4, q5, q6, q7⟩ := (HX.out.below b1 HX.out.lt).all8
  go_wp2_with fail
  refine (HI.out _).mono ?_
  rintro e w2 ⟨rfl, b2⟩
  rw [hx]
  clear q0 q1 q2 q3 q4 q5 q6 q7
  have b1' := b1; have b2' := b2
  clear b1 b2
  obtain ⟨q0, q1, q2, q3, q4, q5, q6, q7⟩ := ((HX.out.below b1' HX.out.lt).below b2' (HX.out.below b1' HX.out.lt).lt).all8
  go_wp2_with fail
  refine (HFI.out _ (below_two b1' b2')).mono ?_
  rintro e w3 ⟨rfl, rfl⟩
  have HX2 := Lib.hid ((HX.out.below b1' HX.out.lt).below b2' (HX.out.below b1' HX.out.lt).lt)
  have HB2 := Lib.hid (below_two (below_two HB.out b1') b2')
  have HR2 := Lib.hid ((HR.out.below b1').below b2')
  clear q0 q1 q2 q3 q4 q5 q6 q7 b1' b2' HFI HIS HI HX HB HR
  have HO0 := Lib.hid (OwnE.of_alloc_nil (E := 38) (w := w2) (base := w.heap.size + 1) HX2.out.lt)
  have ba := (Below.refl w2.heap.size w2).alloc (Nat.le_refl _) (.cells #[] 38)
  have HX3 := Lib.hid (HX2.out.below ba HX2.out.lt)
  have HB3 := Lib.hid (below_two HB2.out ba)
  have HR3 := Lib.hid (HR2.out.below ba)
  clear ba HX2 HB2 HR2
  go_wp2_with fail
  clear hz hp0
  go_loopw [6, 7] (fun s i wr => ∃ (k : Nat) (v : Value), k ≤ n ∧ v = s ∧ i = .int .i64 k ∧ Hid (OwnE 38 wr (w.heap.size + 1) v (befTo t x k)) ∧ Hid (Below w.heap.size w wr) ∧ Hid (SlBk 38 wr w.heap.size x) ∧ Hid (RdE wr ao n t)) (fun _ i _ => n - (intOf i).toNat)
  case atStart => exact ⟨0, _, Nat.zero_le _, rfl, rfl, HO0.out, HB3.out, HX3.out, HR3.out⟩
  case round =>
    clear HO0 HB3 HX3 HR3
    obtain ⟨k, v, hk, rfl, rfl, HO, HB, HX, HR⟩ := hrel
    by_cases hlt : k < n
    · obtain ⟨b, off, e0, hg, hy⟩ := HR.out.at hlt
      subst e0
      have HSU := Lib.hid (befTo_succ (t := t) (x := x) (k := k) (by rw [HL.out]; exact hlt))
      have HLE := Lib.hid (befTo_le (t := t) (x := x) (k := k))
      have HK := Lib.hid (show k ≤ 120 from by have := HN.out; omega)
      have hbw := HBL.out b off rfl (by omega)
      obtain ⟨y, hye⟩ : ∃ y, y = slOf t k := ⟨_, rfl⟩
      rw [← hye] at hy HSU
      have HCY := Lib.hid (HC.out y)
      obtain ⟨z, hze⟩ : ∃ z, z = cmpSl y x := ⟨_, rfl⟩
      rw [← hze] at HCY HSU
      have HY := Lib.hid hy
      clear hye hze hy hg
      go_upto_region 13 with fail
      have HXW := Lib.hid (fun W (hW : Below wr.heap.size wr W) => (HX.out.below hW HX.out.lt).all8)
      have HYW := Lib.hid (fun W (hW : Below wr.heap.size wr W) => (HY.out.below hW HY.out.lt).all8)
      have HD := Lib.hid (show Below wr.heap.size wr wr.drew from Below.drew (Below.refl _ _))
      have hki0 : (0 : Int) ≤ (k : Int) := by omega
      have hki1 : (k : Int) < (n : Int) := by omega
      by_cases hz : z < 0
      · have HF := Lib.hid (show befTo t x (k + 1) = befTo t x k ++ [y] from by rw [HSU.out, if_pos hz])
        refine wp_region_held_drew (S := fun w' => (w'.cell? ⟨w.heap.size, 0, none⟩ = some (Value.int .i64 x.mode) ∧ w'.cell? ⟨w.heap.size, 1, none⟩ = some (Value.int .i64 x.round) ∧ w'.cell? ⟨w.heap.size, 2, none⟩ = some (Value.int .i64 x.slot) ∧ w'.cell? ⟨w.heap.size, 3, none⟩ = some (Value.int .i64 x.desc.node) ∧ w'.cell? ⟨w.heap.size, 4, none⟩ = some (Value.int .i64 x.desc.kind) ∧ w'.cell? ⟨w.heap.size, 5, none⟩ = some (Value.int .i64 x.desc.size) ∧ w'.cell? ⟨w.heap.size, 6, none⟩ = some (Value.int .i64 x.desc.dur) ∧ w'.cell? ⟨w.heap.size, 7, none⟩ = some (Value.bool x.desc.chg)) ∧ (w'.cell? ⟨b, off + k * 8, none⟩ = some (Value.int .i64 y.mode) ∧ w'.cell? ⟨b, off + k * 8 + 1, none⟩ = some (Value.int .i64 y.round) ∧ w'.cell? ⟨b, off + k * 8 + 2, none⟩ = some (Value.int .i64 y.slot) ∧ w'.cell? ⟨b, off + k * 8 + 3, none⟩ = some (Value.int .i64 y.desc.node) ∧ w'.cell? ⟨b, off + k * 8 + 4, none⟩ = some (Value.int .i64 y.desc.kind) ∧ w'.cell? ⟨b, off + k * 8 + 5, none⟩ = some (Value.int .i64 y.desc.size) ∧ w'.cell? ⟨b, off + k * 8 + 6, none⟩ = some (Value.int .i64 y.desc.dur) ∧ w'.cell? ⟨b, off + k * 8 + 7, none⟩ = some (Value.bool y.desc.chg))) (by kernel_rfl) (⟨HXW.out _ HD.out, HYW.out _ HD.out⟩) (fun hHeld => ?_)
        generalize wr.drew = w4 at HD hHeld ⊢
        refine wpAnyH_take (i := 0) (v := ?_) rfl (by kernel_rfl) (by kernel_rfl) (by kernel_rfl) (fun _ _ _ h => h) (Or.inl ⟨by rfl, ?_⟩) (by assumption) ?_
        rotate_left
        · (intro w hSw; (try dsimp only at hSw); go_simp; (try with_reducible rfl))
        try simp only [List.getElem_toArray, List.getElem_cons_succ, List.getElem_cons_zero, Act.put, List.setIfInBounds_toArray, List.set_cons_zero, List.set_cons_succ]
        refine wpAnyH_take (i := 1) (v := ?_) rfl (by kernel_rfl) (by kernel_rfl) (by kernel_rfl) (fun _ _ _ h => h) (Or.inl ⟨by rfl, ?_⟩) (by assumption) ?_
        rotate_left
        · (intro w hSw; (try dsimp only at hSw); go_simp; (try with_reducible rfl))
        try simp only [List.getElem_toArray, List.getElem_cons_succ, List.getElem_cons_zero, Act.put, List.setIfInBounds_toArray, List.set_cons_zero, List.set_cons_succ]
        refine wpAnyH_take (i := 2) (v := ?_) rfl (by kernel_rfl) (by kernel_rfl) (by kernel_rfl) (fun _ _ _ h => h) (Or.inl ⟨by rfl, ?_⟩) (by assumption) ?_
        rotate_left
        · (intro w hSw; (try dsimp only at hSw); go_simp; (try with_reducible rfl))
        try simp only [List.getElem_toArray, List.getElem_cons_succ, List.getElem_cons_zero, Act.put, List.setIfInBounds_toArray, List.set_cons_zero, List.set_cons_succ]
        refine wpAnyH_take (i := 3) (v := ?_) rfl (by kernel_rfl) (by kernel_rfl) (by kernel_rfl) (fun _ _ _ h => h) (Or.inl ⟨by rfl, ?_⟩) (by assumption) ?_
        rotate_left
        · (intro w hSw; (try dsimp only at hSw); go_simp; (try with_reducible rfl))
        try simp only [List.getElem_toArray, List.getElem_cons_succ, List.getElem_cons_zero, Act.put, List.setIfInBounds_toArray, List.set_cons_zero, List.set_cons_succ]
        refine wpAnyH_take (i := 4) (v := ?_) rfl (by kernel_rfl) (by kernel_rfl) (by kernel_rfl) (fun _ _ _ h => h) (Or.inl ⟨by rfl, ?_⟩) (by assumption) ?_
        rotate_left
        · (intro w hSw; (try dsimp only at hSw); go_simp; (try with_reducible rfl))
        try simp only [List.getElem_toArray, List.getElem_cons_succ, List.getElem_cons_zero, Act.put, List.setIfInBounds_toArray, List.set_cons_zero, List.set_cons_succ]
        refine wpAnyH_ready (rs := [5]) (by kernel_rfl) (by simp) (AllReadyH.cons rfl (fun K hK => ?_) AllReadyH.nil)
        go_simp
        refine (HCY.out _).mono ?_
        rintro e w5 ⟨rfl, b5⟩
        have HD5 := Lib.hid (below_two HD.out b5); clear b5
        go_wp2_with fail
        refine hK.out _ _ ?_ (fun hHeld => ?_)
        · exact ⟨HXW.out _ HD5.out, HYW.out _ HD5.out⟩
        clear hK K
        try simp only [List.getElem_toArray, List.getElem_cons_succ, List.getElem_cons_zero, Act.put, List.setIfInBounds_toArray, List.set_cons_zero, List.set_cons_succ]
        refine wpAnyH_take (i := 6) (v := ?_) rfl (by kernel_rfl) (by kernel_rfl) (by kernel_rfl) (fun _ _ _ h => h) (Or.inl ⟨by rfl, ?_⟩) (by assumption) ?_
        rotate_left
        · (intro w hSw; (try dsimp only at hSw); go_simp; (try with_reducible rfl))
        try simp only [List.getElem_toArray, List.getElem_cons_succ, List.getElem_cons_zero, Act.put, List.setIfInBounds_toArray, List.set_cons_zero, List.set_cons_succ]
        refine wpAnyH_done (by kernel_rfl) ?_ _
        have HO5 := Lib.hid (HO.out.below HD5.out)
        have HB5 := Lib.hid (below_two HB.out HD5.out)
        have HX5 := Lib.hid (HX.out.below HD5.out HX.out.lt)
        have HR5 := Lib.hid (HR.out.below HD5.out)
        obtain ⟨q0, q1, q2, q3, q4, q5, q6, q7⟩ := HYW.out _ HD5.out
        have ba := (Below.refl w5.heap.size w5).alloc (Nat.le_refl _) (.cells #[.int .i64 y.mode, .int .i64 y.round, .int .i64 y.slot, .int .i64 y.desc.node, .int .i64 y.desc.kind, .int .i64 y.desc.size, .int .i64 y.desc.dur, .bool y.desc.chg] 38)
        have HO6 := Lib.hid (HO5.out.below ba)
        have HB6 := Lib.hid (below_two HB5.out ba)
        have HX6 := Lib.hid (HX5.out.below ba HX5.out.lt)
        have HR6 := Lib.hid (HR5.out.below ba)
        have HY6 := Lib.hid (show SlIn (w5.alloc (.cells #[.int .i64 y.mode, .int .i64 y.round, .int .i64 y.slot, .int .i64 y.desc.node, .int .i64 y.desc.kind, .int .i64 y.desc.size, .int .i64 y.desc.dur, .bool y.desc.chg] 38)) w5.heap.size 0 y from (SlBk.new (T := 38) (x := y) w5).in_)
        clear ba
        have hlen : (befTo t x k).length ≤ 1073741824 := by have h1 := HLE.out; have h2 := HK.out; omega
        have hbs : w.heap.size + 1 ≤ _ := HX6.out.lt
        go_wp2_with (at_builtin; refine append_sl _ rfl (.tmp 45) (.tmp 50) rfl (w.heap.size + 1) Try.underlying24 infoSl v (befTo t x k) rfl HO6.out w5.heap.size 0 y 1 rfl HY6.out hlen hbs ?_; intro v6 w6 o6 b6)
        rw [← HF.out] at o6
        have HO7 := Lib.hid o6
        have HB7 := Lib.hid (HB6.out.trans (b6.mono (Nat.le_succ _)))
        have HX7 := Lib.hid (HX6.out.below b6 (Nat.lt_succ_self _))
        have HR7 := Lib.hid (HR6.out.below3 b6 (fun b' off' e h0 => by have := HBL.out b' off' e h0; omega))
        clear o6 b6 q0 q1 q2 q3 q4 q5 q6 q7
        go_wp2_with fail
        go_roundw
        case rel => exact ⟨k + 1, v6, by omega, rfl, by go_num, HO7, HB7, HX7, HR7⟩
        case measure => simp [intOf]; omega
      · have HF := Lib.hid (show befTo t x (k + 1) = befTo t x k from by rw [HSU.out, if_neg hz])
        refine wp_region_held_drew (S := fun w' => (w'.cell? ⟨w.heap.size, 0, none⟩ = some (Value.int .i64 x.mode) ∧ w'.cell? ⟨w.heap.size, 1, none⟩ = some (Value.int .i64 x.round) ∧ w'.cell? ⟨w.heap.size, 2, none⟩ = some (Value.int .i64 x.slot) ∧ w'.cell? ⟨w.heap.size, 3, none⟩ = some (Value.int .i64 x.desc.node) ∧ w'.cell? ⟨w.heap.size, 4, none⟩ = some (Value.int .i64 x.desc.kind) ∧ w'.cell? ⟨w.heap.size, 5, none⟩ = some (Value.int .i64 x.desc.size) ∧ w'.cell? ⟨w.heap.size, 6, none⟩ = some (Value.int .i64 x.desc.dur) ∧ w'.cell? ⟨w.heap.size, 7, none⟩ = some (Value.bool x.desc.chg)) ∧ (w'.cell? ⟨b, off + k * 8, none⟩ = some (Value.int .i64 y.mode) ∧ w'.cell? ⟨b, off + k * 8 + 1, none⟩ = some (Value.int .i64 y.round) ∧ w'.cell? ⟨b, off + k * 8 + 2, none⟩ = some (Value.int .i64 y.slot) ∧ w'.cell? ⟨b, off + k * 8 + 3, none⟩ = some (Value.int .i64 y.desc.node) ∧ w'.cell? ⟨b, off + k * 8 + 4, none⟩ = some (Value.int .i64 y.desc.kind) ∧ w'.cell? ⟨b, off + k * 8 + 5, none⟩ = some (Value.int .i64 y.desc.size) ∧ w'.cell? ⟨b, off + k * 8 + 6, none⟩ = some (Value.int .i64 y.desc.dur) ∧ w'.cell? ⟨b, off + k * 8 + 7, none⟩ = some (Value.bool y.desc.chg))) (by kernel_rfl) (⟨HXW.out _ HD.out, HYW.out _ HD.out⟩) (fun hHeld => ?_)
        generalize wr.drew = w4 at HD hHeld ⊢
        refine wpAnyH_take (i := 0) (v := ?_) rfl (by kernel_rfl) (by kernel_rfl) (by kernel_rfl) (fun _ _ _ h => h) (Or.inl ⟨by rfl, ?_⟩) (by assumption) ?_
        rotate_left
        · (intro w hSw; (try dsimp only at hSw); go_simp; (try with_reducible rfl))
        try simp only [List.getElem_toArray, List.getElem_cons_succ, List.getElem_cons_zero, Act.put, List.setIfInBounds_toArray, List.set_cons_zero, List.set_cons_succ]
        refine wpAnyH_take (i := 1) (v := ?_) rfl (by kernel_rfl) (by kernel_rfl) (by kernel_rfl) (fun _ _ _ h => h) (Or.inl ⟨by rfl, ?_⟩) (by assumption) ?_
        rotate_left
        · (intro w hSw; (try dsimp only at hSw); go_simp; (try with_reducible rfl))
        try simp only [List.getElem_toArray, List.getElem_cons_succ, List.getElem_cons_zero, Act.put, List.setIfInBounds_toArray, List.set_cons_zero, List.set_cons_succ]
        refine wpAnyH_take (i := 2) (v := ?_) rfl (by kernel_rfl) (by kernel_rfl) (by kernel_rfl) (fun _ _ _ h => h) (Or.inl ⟨by rfl, ?_⟩) (by assumption) ?_
        rotate_left
        · (intro w hSw; (try dsimp only at hSw); go_simp; (try with_reducible rfl))
        try simp only [List.getElem_toArray, List.getElem_cons_succ, List.getElem_cons_zero, Act.put, List.setIfInBounds_toArray, List.set_cons_zero, List.set_cons_succ]
        refine wpAnyH_take (i := 3) (v := ?_) rfl (by kernel_rfl) (by kernel_rfl) (by kernel_rfl) (fun _ _ _ h => h) (Or.inl ⟨by rfl, ?_⟩) (by assumption) ?_
        rotate_left
        · (intro w hSw; (try dsimp only at hSw); go_simp; (try with_reducible rfl))
        try simp only [List.getElem_toArray, List.getElem_cons_succ, List.getElem_cons_zero, Act.put, List.setIfInBounds_toArray, List.set_cons_zero, List.set_cons_succ]
        refine wpAnyH_take (i := 4) (v := ?_) rfl (by kernel_rfl) (by kernel_rfl) (by kernel_rfl) (fun _ _ _ h => h) (Or.inl ⟨by rfl, ?_⟩) (by assumption) ?_
        rotate_left
        · (intro w hSw; (try dsimp only at hSw); go_simp; (try with_reducible rfl))
        try simp only [List.getElem_toArray, List.getElem_cons_succ, List.getElem_cons_zero, Act.put, List.setIfInBounds_toArray, List.set_cons_zero, List.set_cons_succ]
        refine wpAnyH_ready (rs := [5]) (by kernel_rfl) (by simp) (AllReadyH.cons rfl (fun K hK => ?_) AllReadyH.nil)
        go_simp
        refine (HCY.out _).mono ?_
        rintro e w5 ⟨rfl, b5⟩
        have HD5 := Lib.hid (below_two HD.out b5); clear b5
        go_wp2_with fail
        refine hK.out _ _ ?_ (fun hHeld => ?_)
        · exact ⟨HXW.out _ HD5.out, HYW.out _ HD5.out⟩
        clear hK K
        try simp only [List.getElem_toArray, List.getElem_cons_succ, List.getElem_cons_zero, Act.put, List.setIfInBounds_toArray, List.set_cons_zero, List.set_cons_succ]
        refine wpAnyH_take (i := 6) (v := ?_) rfl (by kernel_rfl) (by kernel_rfl) (by kernel_rfl) (fun _ _ _ h => h) (Or.inl ⟨by rfl, ?_⟩) (by assumption) ?_
        rotate_left
        · (intro w hSw; (try dsimp only at hSw); go_simp; (try with_reducible rfl))
        try simp only [List.getElem_toArray, List.getElem_cons_succ, List.getElem_cons_zero, Act.put, List.setIfInBounds_toArray, List.set_cons_zero, List.set_cons_succ]
        refine wpAnyH_done (by kernel_rfl) ?_ _
        have HO5 := Lib.hid (HO.out.below HD5.out)
        have HB5 := Lib.hid (below_two HB.out HD5.out)
        have HX5 := Lib.hid (HX.out.below HD5.out HX.out.lt)
        have HR5 := Lib.hid (HR.out.below HD5.out)
        rw [← HF.out] at HO5
        go_wp2_with fail
        go_roundw
        case rel => exact ⟨k + 1, v, by omega, rfl, by go_num, HO5, HB5, HX5, HR5⟩
        case measure => simp [intOf]; omega
    · have hkn : n = k := by omega
      subst hkn
      have HFB := Lib.hid (befTo_all (x := x) (show t.length ≤ n by rw [HL.out]; exact Nat.le_refl _))
      rw [HFB.out] at HO
      obtain ⟨q0, q1, q2, q3, q4, q5, q6, q7⟩ := HX.out.all8
      have ba := (Below.refl wr.heap.size wr).alloc (Nat.le_refl _) (.cells #[.int .i64 x.mode, .int .i64 x.round, .int .i64 x.slot, .int .i64 x.desc.node, .int .i64 x.desc.kind, .int .i64 x.desc.size, .int .i64 x.desc.dur, .bool x.desc.chg] 38)
      have HO6 := Lib.hid (HO.out.below ba)
      have HB6 := Lib.hid (below_two HB.out ba)
      have HX6 := Lib.hid (HX.out.below ba HX.out.lt)
      have HR6 := Lib.hid (HR.out.below ba)
      have HY6 := Lib.hid (show SlIn (wr.alloc (.cells #[.int .i64 x.mode, .int .i64 x.round, .int .i64 x.slot, .int .i64 x.desc.node, .int .i64 x.desc.kind, .int .i64 x.desc.size, .int .i64 x.desc.dur, .bool x.desc.chg] 38)) wr.heap.size 0 x from (SlBk.new (T := 38) (x := x) wr).in_)
      clear ba
      have hlen : (before t x).length ≤ 1073741824 := by unfold before; have := List.length_filter_le (fun y => decide (cmpSl y x < 0)) t; have := HL.out; omega
      have hbs : w.heap.size + 1 ≤ _ := HX6.out.lt
      go_wp2_with (at_builtin; refine append_sl _ rfl (.tmp 52) (.tmp 54) rfl (w.heap.size + 1) Try.underlying24 infoSl v (before t x) rfl HO6.out wr.heap.size 0 x 1 rfl HY6.out hlen hbs ?_; intro v6 w6 o6 b6)
      have HO4 := Lib.hid o6
      have HB4 := Lib.hid (HB6.out.trans (b6.mono (Nat.le_succ _)))
      have HX4 := Lib.hid (HX6.out.below b6 (Nat.lt_succ_self _))
      have HR4 := Lib.hid (HR6.out.below3 b6 (fun b' off' e h0 => by have := HBL.out b' off' e h0; omega))
      clear o6 b6 q0 q1 q2 q3 q4 q5 q6 q7 HO HB HX HR HO6 HB6 HX6 HR6 HY6 hbs hlen HFB
      have HO4 : Hid (OwnE 38 w6 (w.heap.size + 1) v6 (before t x ++ [x] ++ behTo t x 0)) := by rw [show behTo t x 0 = [] from rfl, List.append_nil]; exact HO4
      go_wp2_with fail
      go_loopw [6, 8] (fun s i wr => ∃ (k : Nat) (v : Value), k ≤ n ∧ v = s ∧ i = .int .i64 k ∧ Hid (OwnE 38 wr (w.heap.size + 1) v (before t x ++ [x] ++ behTo t x k)) ∧ Hid (Below w.heap.size w wr) ∧ Hid (SlBk 38 wr w.heap.size x) ∧ Hid (RdE wr ao n t)) (fun _ i _ => n - (intOf i).toNat)
      case atStart => exact ⟨0, _, Nat.zero_le _, rfl, rfl, HO4.out, HB4.out, HX4.out, HR4.out⟩
      case round =>
        clear HO4 HB4 HX4 HR4
        obtain ⟨k, v, hk, rfl, rfl, HO, HB, HX, HR⟩ := hrel
        by_cases hlt : k < n
        · obtain ⟨b, off, e0, hg, hy⟩ := HR.out.at hlt
          subst e0
          have HSU := Lib.hid (behTo_succ (t := t) (x := x) (k := k) (by rw [HL.out]; exact hlt))
          have HLE := Lib.hid (behTo_le (t := t) (x := x) (k := k))
          have HK := Lib.hid (show k ≤ 120 from by have := HN.out; omega)
          have hbw := HBL.out b off rfl (by omega)
          obtain ⟨y, hye⟩ : ∃ y, y = slOf t k := ⟨_, rfl⟩
          rw [← hye] at hy HSU
          have HCY := Lib.hid (HC.out y)
          obtain ⟨z, hze⟩ : ∃ z, z = cmpSl y x := ⟨_, rfl⟩
          rw [← hze] at HCY HSU
          have HY := Lib.hid hy
          clear hye hze hy hg
          go_upto_region 19 with fail
          have HXW := Lib.hid (fun W (hW : Below wr.heap.size wr W) => (HX.out.below hW HX.out.lt).all8)
          have HYW := Lib.hid (fun W (hW : Below wr.heap.size wr W) => (HY.out.below hW HY.out.lt).all8)
          have HD := Lib.hid (show Below wr.heap.size wr wr.drew from Below.drew (Below.refl _ _))
          have hki0 : (0 : Int) ≤ (k : Int) := by omega
          have hki1 : (k : Int) < (n : Int) := by omega
          by_cases hz : 0 < z
          · have HF := Lib.hid (show before t x ++ [x] ++ behTo t x (k + 1) = (before t x ++ [x] ++ behTo t x k) ++ [y] from by rw [HSU.out, if_pos hz]; simp [List.append_assoc])
            have hz2 : z > 0 := hz
            refine wp_region_held_drew (S := fun w' => (w'.cell? ⟨w.heap.size, 0, none⟩ = some (Value.int .i64 x.mode) ∧ w'.cell? ⟨w.heap.size, 1, none⟩ = some (Value.int .i64 x.round) ∧ w'.cell? ⟨w.heap.size, 2, none⟩ = some (Value.int .i64 x.slot) ∧ w'.cell? ⟨w.heap.size, 3, none⟩ = some (Value.int .i64 x.desc.node) ∧ w'.cell? ⟨w.heap.size, 4, none⟩ = some (Value.int .i64 x.desc.kind) ∧ w'.cell? ⟨w.heap.size, 5, none⟩ = some (Value.int .i64 x.desc.size) ∧ w'.cell? ⟨w.heap.size, 6, none⟩ = some (Value.int .i64 x.desc.dur) ∧ w'.cell? ⟨w.heap.size, 7, none⟩ = some (Value.bool x.desc.chg)) ∧ (w'.cell? ⟨b, off + k * 8, none⟩ = some (Value.int .i64 y.mode) ∧ w'.cell? ⟨b, off + k * 8 + 1, none⟩ = some (Value.int .i64 y.round) ∧ w'.cell? ⟨b, off + k * 8 + 2, none⟩ = some (Value.int .i64 y.slot) ∧ w'.cell? ⟨b, off + k * 8 + 3, none⟩ = some (Value.int .i64 y.desc.node) ∧ w'.cell? ⟨b, off + k * 8 + 4, none⟩ = some (Value.int .i64 y.desc.kind) ∧ w'.cell? ⟨b, off + k * 8 + 5, none⟩ = some (Value.int .i64 y.desc.size) ∧ w'.cell? ⟨b, off + k * 8 + 6, none⟩ = some (Value.int .i64 y.desc.dur) ∧ w'.cell? ⟨b, off + k * 8 + 7, none⟩ = some (Value.bool y.desc.chg))) (by kernel_rfl) (⟨HXW.out _ HD.out, HYW.out _ HD.out⟩) (fun hHeld => ?_)
            generalize wr.drew = w4 at HD hHeld ⊢
            refine wpAnyH_take (i := 0) (v := ?_) rfl (by kernel_rfl) (by kernel_rfl) (by kernel_rfl) (fun _ _ _ h => h) (Or.inl ⟨by rfl, ?_⟩) (by assumption) ?_
            rotate_left
            · (intro w hSw; (try dsimp only at hSw); go_simp; (try with_reducible rfl))
            try simp only [List.getElem_toArray, List.getElem_cons_succ, List.getElem_cons_zero, Act.put, List.setIfInBounds_toArray, List.set_cons_zero, List.set_cons_succ]
            refine wpAnyH_take (i := 1) (v := ?_) rfl (by kernel_rfl) (by kernel_rfl) (by kernel_rfl) (fun _ _ _ h => h) (Or.inl ⟨by rfl, ?_⟩) (by assumption) ?_
            rotate_left
            · (intro w hSw; (try dsimp only at hSw); go_simp; (try with_reducible rfl))
            try simp only [List.getElem_toArray, List.getElem_cons_succ, List.getElem_cons_zero, Act.put, List.setIfInBounds_toArray, List.set_cons_zero, List.set_cons_succ]
            refine wpAnyH_take (i := 2) (v := ?_) rfl (by kernel_rfl) (by kernel_rfl) (by kernel_rfl) (fun _ _ _ h => h) (Or.inl ⟨by rfl, ?_⟩) (by assumption) ?_
            rotate_left
            · (intro w hSw; (try dsimp only at hSw); go_simp; (try with_reducible rfl))
            try simp only [List.getElem_toArray, List.getElem_cons_succ, List.getElem_cons_zero, Act.put, List.setIfInBounds_toArray, List.set_cons_zero, List.set_cons_succ]
            refine wpAnyH_take (i := 3) (v := ?_) rfl (by kernel_rfl) (by kernel_rfl) (by kernel_rfl) (fun _ _ _ h => h) (Or.inl ⟨by rfl, ?_⟩) (by assumption) ?_
            rotate_left
            · (intro w hSw; (try dsimp only at hSw); go_simp; (try with_reducible rfl))
            try simp only [List.getElem_toArray, List.getElem_cons_succ, List.getElem_cons_zero, Act.put, List.setIfInBounds_toArray, List.set_cons_zero, List.set_cons_succ]
            refine wpAnyH_take (i := 4) (v := ?_) rfl (by kernel_rfl) (by kernel_rfl) (by kernel_rfl) (fun _ _ _ h => h) (Or.inl ⟨by rfl, ?_⟩) (by assumption) ?_
            rotate_left
            · (intro w hSw; (try dsimp only at hSw); go_simp; (try with_reducible rfl))
            try simp only [List.getElem_toArray, List.getElem_cons_succ, List.getElem_cons_zero, Act.put, List.setIfInBounds_toArray, List.set_cons_zero, List.set_cons_succ]
            refine wpAnyH_ready (rs := [5]) (by kernel_rfl) (by simp) (AllReadyH.cons rfl (fun K hK => ?_) AllReadyH.nil)
            go_simp
            refine (HCY.out _).mono ?_
            rintro e w5 ⟨rfl, b5⟩
            have HD5 := Lib.hid (below_two HD.out b5); clear b5
            go_wp2_with fail
            refine hK.out _ _ ?_ (fun hHeld => ?_)
            · exact ⟨HXW.out _ HD5.out, HYW.out _ HD5.out⟩
            clear hK K
            try simp only [List.getElem_toArray, List.getElem_cons_succ, List.getElem_cons_zero, Act.put, List.setIfInBounds_toArray, List.set_cons_zero, List.set_cons_succ]
            refine wpAnyH_take (i := 6) (v := ?_) rfl (by kernel_rfl) (by kernel_rfl) (by kernel_rfl) (fun _ _ _ h => h) (Or.inl ⟨by rfl, ?_⟩) (by assumption) ?_
            rotate_left
            · (intro w hSw; (try dsimp only at hSw); go_simp; (try with_reducible rfl))
            try simp only [List.getElem_toArray, List.getElem_cons_succ, List.getElem_cons_zero, Act.put, List.setIfInBounds_toArray, List.set_cons_zero, List.set_cons_succ]
            refine wpAnyH_done (by kernel_rfl) ?_ _
            have HO5 := Lib.hid (HO.out.below HD5.out)
            have HB5 := Lib.hid (below_two HB.out HD5.out)
            have HX5 := Lib.hid (HX.out.below HD5.out HX.out.lt)
            have HR5 := Lib.hid (HR.out.below HD5.out)
            obtain ⟨q0, q1, q2, q3, q4, q5, q6, q7⟩ := HYW.out _ HD5.out
            have ba := (Below.refl w5.heap.size w5).alloc (Nat.le_refl _) (.cells #[.int .i64 y.mode, .int .i64 y.round, .int .i64 y.slot, .int .i64 y.desc.node, .int .i64 y.desc.kind, .int .i64 y.desc.size, .int .i64 y.desc.dur, .bool y.desc.chg] 38)
            have HO6 := Lib.hid (HO5.out.below ba)
            have HB6 := Lib.hid (below_two HB5.out ba)
            have HX6 := Lib.hid (HX5.out.below ba HX5.out.lt)
            have HR6 := Lib.hid (HR5.out.below ba)
            have HY6 := Lib.hid (show SlIn (w5.alloc (.cells #[.int .i64 y.mode, .int .i64 y.round, .int .i64 y.slot, .int .i64 y.desc.node, .int .i64 y.desc.kind, .int .i64 y.desc.size, .int .i64 y.desc.dur, .bool y.desc.chg] 38)) w5.heap.size 0 y from (SlBk.new (T := 38) (x := y) w5).in_)
            clear ba
            have hlen : (before t x ++ [x] ++ behTo t x k).length ≤ 1073741824 := by have h1 := HLE.out; have h2 := HK.out; have h3 : (before t x).length ≤ 120 := (by unfold before; have := List.length_filter_le (fun y => decide (cmpSl y x < 0)) t; have := HL.out; have := HN.out; omega); rw [List.length_append, List.length_append, List.length_singleton]; omega
            have hbs : w.heap.size + 1 ≤ _ := HX6.out.lt
            go_wp2_with (at_builtin; refine append_sl _ rfl (.tmp 69) (.tmp 74) rfl (w.heap.size + 1) Try.underlying24 infoSl v (before t x ++ [x] ++ behTo t x k) rfl HO6.out w5.heap.size 0 y 1 rfl HY6.out hlen hbs ?_; intro v6 w6 o6 b6)
            rw [← HF.out] at o6
            have HO7 := Lib.hid o6
            have HB7 := Lib.hid (HB6.out.trans (b6.mono (Nat.le_succ _)))
            have HX7 := Lib.hid (HX6.out.below b6 (Nat.lt_succ_self _))
            have HR7 := Lib.hid (HR6.out.below3 b6 (fun b' off' e h0 => by have := HBL.out b' off' e h0; omega))
            clear o6 b6 q0 q1 q2 q3 q4 q5 q6 q7
            go_wp2_with fail
            go_roundw
            case rel => exact ⟨k + 1, v6, by omega, rfl, by go_num, HO7, HB7, HX7, HR7⟩
            case measure => simp [intOf]; omega
          · have HF := Lib.hid (show before t x ++ [x] ++ behTo t x (k + 1) = before t x ++ [x] ++ behTo t x k from by rw [HSU.out, if_neg hz])
            have hz2 : ¬ z > 0 := hz
            refine wp_region_held_drew (S := fun w' => (w'.cell? ⟨w.heap.size, 0, none⟩ = some (Value.int .i64 x.mode) ∧ w'.cell? ⟨w.heap.size, 1, none⟩ = some (Value.int .i64 x.round) ∧ w'.cell? ⟨w.heap.size, 2, none⟩ = some (Value.int .i64 x.slot) ∧ w'.cell? ⟨w.heap.size, 3, none⟩ = some (Value.int .i64 x.desc.node) ∧ w'.cell? ⟨w.heap.size, 4, none⟩ = some (Value.int .i64 x.desc.kind) ∧ w'.cell? ⟨w.heap.size, 5, none⟩ = some (Value.int .i64 x.desc.size) ∧ w'.cell? ⟨w.heap.size, 6, none⟩ = some (Value.int .i64 x.desc.dur) ∧ w'.cell? ⟨w.heap.size, 7, none⟩ = some (Value.bool x.desc.chg)) ∧ (w'.cell? ⟨b, off + k * 8, none⟩ = some (Value.int .i64 y.mode) ∧ w'.cell? ⟨b, off + k * 8 + 1, none⟩ = some (Value.int .i64 y.round) ∧ w'.cell? ⟨b, off + k * 8 + 2, none⟩ = some (Value.int .i64 y.slot) ∧ w'.cell? ⟨b, off + k * 8 + 3, none⟩ = some (Value.int .i64 y.desc.node) ∧ w'.cell? ⟨b, off + k * 8 + 4, none⟩ = some (Value.int .i64 y.desc.kind) ∧ w'.cell? ⟨b, off + k * 8 + 5, none⟩ = some (Value.int .i64 y.desc.size) ∧ w'.cell? ⟨b, off + k * 8 + 6, none⟩ = some (Value.int .i64 y.desc.dur) ∧ w'.cell? ⟨b, off + k * 8 + 7, none⟩ = some (Value.bool y.desc.chg))) (by kernel_rfl) (⟨HXW.out _ HD.out, HYW.out _ HD.out⟩) (fun hHeld => ?_)
            generalize wr.drew = w4 at HD hHeld ⊢
            refine wpAnyH_take (i := 0) (v := ?_) rfl (by kernel_rfl) (by kernel_rfl) (by kernel_rfl) (fun _ _ _ h => h) (Or.inl ⟨by rfl, ?_⟩) (by assumption) ?_
            rotate_left
            · (intro w hSw; (try dsimp only at hSw); go_simp; (try with_reducible rfl))
            try simp only [List.getElem_toArray, List.getElem_cons_succ, List.getElem_cons_zero, Act.put, List.setIfInBounds_toArray, List.set_cons_zero, List.set_cons_succ]
            refine wpAnyH_take (i := 1) (v := ?_) rfl (by kernel_rfl) (by kernel_rfl) (by kernel_rfl) (fun _ _ _ h => h) (Or.inl ⟨by rfl, ?_⟩) (by assumption) ?_
            rotate_left
            · (intro w hSw; (try dsimp only at hSw); go_simp; (try with_reducible rfl))
            try simp only [List.getElem_toArray, List.getElem_cons_succ, List.getElem_cons_zero, Act.put, List.setIfInBounds_toArray, List.set_cons_zero, List.set_cons_succ]
            refine wpAnyH_take (i := 2) (v := ?_) rfl (by kernel_rfl) (by kernel_rfl) (by kernel_rfl) (fun _ _ _ h => h) (Or.inl ⟨by rfl, ?_⟩) (by assumption) ?_
            rotate_left
            · (intro w hSw; (try dsimp only at hSw); go_simp; (try with_reducible rfl))
            try simp only [List.getElem_toArray, List.getElem_cons_succ, List.getElem_cons_zero, Act.put, List.setIfInBounds_toArray, List.set_cons_zero, List.set_cons_succ]
            refine wpAnyH_take (i := 3) (v := ?_) rfl (by kernel_rfl) (by kernel_rfl) (by kernel_rfl) (fun _ _ _ h => h) (Or.inl ⟨by rfl, ?_⟩) (by assumption) ?_
            rotate_left
            · (intro w hSw; (try dsimp only at hSw); go_simp; (try with_reducible rfl))
            try simp only [List.getElem_toArray, List.getElem_cons_succ, List.getElem_cons_zero, Act.put, List.setIfInBounds_toArray, List.set_cons_zero, List.set_cons_succ]
            refine wpAnyH_take (i := 4) (v := ?_) rfl (by kernel_rfl) (by kernel_rfl) (by kernel_rfl) (fun _ _ _ h => h) (Or.inl ⟨by rfl, ?_⟩) (by assumption) ?_
            rotate_left
            · (intro w hSw; (try dsimp only at hSw); go_simp; (try with_reducible rfl))
            try simp only [List.getElem_toArray, List.getElem_cons_succ, List.getElem_cons_zero, Act.put, List.setIfInBounds_toArray, List.set_cons_zero, List.set_cons_succ]
            refine wpAnyH_ready (rs := [5]) (by kernel_rfl) (by simp) (AllReadyH.cons rfl (fun K hK => ?_) AllReadyH.nil)
            go_simp
            refine (HCY.out _).mono ?_
            rintro e w5 ⟨rfl, b5⟩
            have HD5 := Lib.hid (below_two HD.out b5); clear b5
            go_wp2_with fail
            refine hK.out _ _ ?_ (fun hHeld => ?_)
            · exact ⟨HXW.out _ HD5.out, HYW.out _ HD5.out⟩
            clear hK K
            try simp only [List.getElem_toArray, List.getElem_cons_succ, List.getElem_cons_zero, Act.put, List.setIfInBounds_toArray, List.set_cons_zero, List.set_cons_succ]
            refine wpAnyH_take (i := 6) (v := ?_) rfl (by kernel_rfl) (by kernel_rfl) (by kernel_rfl) (fun _ _ _ h => h) (Or.inl ⟨by rfl, ?_⟩) (by assumption) ?_
            rotate_left
            · (intro w hSw; (try dsimp only at hSw); go_simp; (try with_reducible rfl))
            try simp only [List.getElem_toArray, List.getElem_cons_succ, List.getElem_cons_zero, Act.put, List.setIfInBounds_toArray, List.set_cons_zero, List.set_cons_succ]
            refine wpAnyH_done (by kernel_rfl) ?_ _
            have HO5 := Lib.hid (HO.out.below HD5.out)
            have HB5 := Lib.hid (below_two HB.out HD5.out)
            have HX5 := Lib.hid (HX.out.below HD5.out HX.out.lt)
            have HR5 := Lib.hid (HR.out.below HD5.out)
            rw [← HF.out] at HO5
            go_wp2_with fail
            go_roundw
            case rel => exact ⟨k + 1, v, by omega, rfl, by go_num, HO5, HB5, HX5, HR5⟩
            case measure => simp [intOf]; omega
        · have hkn : n = k := by omega
          subst hkn
          have HFB := Lib.hid (behTo_all (x := x) (show t.length ≤ n by rw [HL.out]; exact Nat.le_refl _))
          rw [HFB.out] at HO
          go_wp2_with fail
          go_ret2
          exact ⟨v, rfl, HO.out.more (Nat.le_succ _), HB.out⟩
end Go.Proofs.Ytggnoeeaoligdaa
