/-
  Chapter 12: the program's map of slots; FindSlot; the codes of InsertSlot.
-/
import Derived.Test.YtggnoeeaoligdaaSM
namespace Go.Proofs.Ytggnoeeaoligdaa
open Go.RowKit Go.Maps

/-! ### what the map holds -/
def sent (t : List Sl) (m r s : Int) : Option Ds := (t.reverse.find? (sameSl m r s)).map (·.desc)
theorem sent_nil : sent [] = fun _ _ _ => none := rfl
theorem sent_snoc (t : List Sl) (x : Sl) : sent (t ++ [x]) = updS (sent t) x.mode x.round x.slot x.desc := by
  funext m r s
  unfold sent updS
  rw [List.reverse_append, List.reverse_singleton, List.singleton_append, List.find?_cons]
  by_cases h : m = x.mode ∧ r = x.round ∧ s = x.slot
  · obtain ⟨rfl, rfl, rfl⟩ := h
    simp [sameSl]
  · have : sameSl m r s x = false := by
      rw [Bool.eq_false_iff]
      intro hc
      obtain ⟨h1, h2, h3⟩ := same_iff.1 hc
      exact h ⟨h1.symm, h2.symm, h3.symm⟩
    rw [if_neg h, this]
theorem sls_uniq {t : List Sl} (h : isSls t = true) {m r s : Int} {x y : Sl} (hx : x ∈ t) (hy : y ∈ t) (h1 : sameSl m r s x = true) (h2 : sameSl m r s y = true) : x = y := by
  obtain ⟨-, -, h3⟩ := isSls_iff.1 h
  obtain ⟨a1, a2, a3⟩ := same_iff.1 h1
  obtain ⟨b1, b2, b3⟩ := same_iff.1 h2
  obtain ⟨i, hi, ei⟩ := List.getElem_of_mem hx
  obtain ⟨j, hj, ej⟩ := List.getElem_of_mem hy
  rcases Nat.lt_trichotomy i j with hij | rfl | hij
  · have := List.pairwise_iff_getElem.1 h3 i j hi hj hij
    rw [ei, ej, cmp_lt] at this
    omega
  · rw [← ei, ← ej]
  · have := List.pairwise_iff_getElem.1 h3 j i hj hi hij
    rw [ei, ej, cmp_lt] at this
    omega
theorem sent_find {t : List Sl} (h : isSls t = true) (m r s : Int) : sent t m r s = (t.find? (sameSl m r s)).map (·.desc) := by
  unfold sent
  rcases h1 : t.find? (sameSl m r s) with _ | x
  · have : t.reverse.find? (sameSl m r s) = none := by
      rw [List.find?_eq_none] at h1 ⊢
      exact fun y hy => h1 y (List.mem_reverse.1 hy)
    rw [this]
  · rcases h2 : t.reverse.find? (sameSl m r s) with _ | y
    · have := List.find?_eq_none.1 h2 x (List.mem_reverse.2 (List.mem_of_find?_eq_some h1))
      exact absurd (List.find?_some h1) this
    · rw [sls_uniq h (List.mem_of_find?_eq_some h1) (List.mem_reverse.1 (List.mem_of_find?_eq_some h2)) (List.find?_some h1) (List.find?_some h2)]
def wfE (x : Sl) : Prop := wfk x.mode x.round x.slot
theorem wfE_of {x : Sl} (h : isSl x = true) : wfE x := by
  obtain ⟨h1, h2, h3, -⟩ := isSl_iff.1 h
  exact ⟨WalkArith.wf_i64 (by omega), WalkArith.wf_i64 (by omega), WalkArith.wf_i64 (by omega)⟩
theorem wfE_all {t : List Sl} (h : isSls t = true) : ∀ x ∈ t, wfE x := fun x hx => wfE_of ((isSls_iff.1 h).2.1 x hx)
theorem findSlot_no {t : List Sl} {m r s : Int} (h : isSls t = false) : findSlot t m r s = (Ds.zero, 1) := by unfold findSlot; rw [if_pos h]
theorem findSlot_none {t : List Sl} {m r s : Int} (h : isSls t = true) (h2 : sent t m r s = none) : findSlot t m r s = (Ds.zero, 4) := by
  rw [sent_find h] at h2
  unfold findSlot
  rw [if_neg (by rw [h]; simp)]
  rcases hf : t.find? (sameSl m r s) with _ | x
  · rfl
  · rw [hf] at h2; cases h2
theorem findSlot_some {t : List Sl} {m r s : Int} {d : Ds} (h : isSls t = true) (h2 : sent t m r s = some d) : findSlot t m r s = (d, 0) := by
  rw [sent_find h] at h2
  unfold findSlot
  rw [if_neg (by rw [h]; simp)]
  rcases hf : t.find? (sameSl m r s) with _ | x
  · rw [hf] at h2; cases h2
  · rw [hf] at h2; cases h2; rfl
/-- The code of InsertSlot. -/
def codeIns (t : List Sl) (x : Sl) : Int := if isSls t = false then 1 else if isSl x = false then 2 else if (sent t x.mode x.round x.slot).isSome = true then 5 else if t.length = 120 then 3 else 0
theorem sent_any {t : List Sl} (h : isSls t = true) (m r s : Int) : (sent t m r s).isSome = t.any (sameSl m r s) := by
  rw [sent_find h]
  rcases hf : t.find? (sameSl m r s) with _ | x
  · have : t.any (sameSl m r s) = false := List.any_eq_false.2 (List.find?_eq_none.1 hf)
    rw [this]; rfl
  · have : t.any (sameSl m r s) = true := List.any_eq_true.2 ⟨x, List.mem_of_find?_eq_some hf, List.find?_some hf⟩
    rw [this]; rfl
theorem insert_code {t : List Sl} {x : Sl} : (insertSlot t x).2 = codeIns t x ∧ (codeIns t x ≠ 0 → (insertSlot t x).1 = []) := by
  unfold insertSlot codeIns
  by_cases h1 : isSls t = false
  · rw [if_pos h1, if_pos h1]; exact ⟨rfl, fun _ => rfl⟩
  rw [if_neg h1, if_neg h1]
  by_cases h2 : isSl x = false
  · rw [if_pos h2, if_pos h2]; exact ⟨rfl, fun _ => rfl⟩
  rw [if_neg h2, if_neg h2, sent_any (by simpa using h1)]
  by_cases h3 : t.any (sameSl x.mode x.round x.slot) = true
  · rw [if_pos h3, if_pos h3]; exact ⟨rfl, fun _ => rfl⟩
  rw [if_neg h3, if_neg h3]
  by_cases h4 : t.length = 120
  · rw [if_pos h4, if_pos h4]; exact ⟨rfl, fun _ => rfl⟩
  rw [if_neg h4, if_neg h4]
  exact ⟨rfl, fun h => absurd rfl h⟩

/-! ### keyOf -/
set_option maxRecDepth 100000 in
set_option maxHeartbeats 1000000 in
theorem keyOfS_any (x : Sl) (w : World) : Calls Try.prog 138 #[slVal x] w fun e w' => e = .returned (keyV x.mode x.round x.slot) ∧ Below w.heap.size w w' := by
  have HB := Lib.hid (show Below w.heap.size w ((w.alloc (.cells #[.int .i64 x.mode, .int .i64 x.round, .int .i64 x.slot, .int .i64 x.desc.node, .int .i64 x.desc.kind, .int .i64 x.desc.size, .int .i64 x.desc.dur, .bool x.desc.chg] 38)).alloc (.cells #[.int .i64 0, .int .i64 0, .int .i64 0] 113)) from below_two ((Below.refl _ _).alloc (Nat.le_refl _) _) ((Below.refl _ _).alloc (Nat.le_refl _) _))
  have HX := Lib.hid ((SlBk.new (T := 38) (x := x) w).below ((Below.refl _ _).alloc (Nat.le_refl _) (.cells #[.int .i64 0, .int .i64 0, .int .i64 0] 113)) (by simp))
  have h0 : ((w.alloc (.cells #[.int .i64 x.mode, .int .i64 x.round, .int .i64 x.slot, .int .i64 x.desc.node, .int .i64 x.desc.kind, .int .i64 x.desc.size, .int .i64 x.desc.dur, .bool x.desc.chg] 38)).alloc (.cells #[.int .i64 0, .int .i64 0, .int .i64 0] 113)).heap[w.heap.size + 1]? = some (.cells #[.int .i64 0, .int .i64 0, .int .i64 0] 113 (0, 0)) := by
    have h := heap_alloc_new (w.alloc (.cells #[.int .i64 x.mode, .int .i64 x.round, .int .i64 x.slot, .int .i64 x.desc.node, .int .i64 x.desc.kind, .int .i64 x.desc.size, .int .i64 x.desc.dur, .bool x.desc.chg] 38)) (.cells #[.int .i64 0, .int .i64 0, .int .i64 0] 113 (0, 0))
    rw [World.size_alloc] at h
    exact h
  have HK := Lib.hid h0
  clear h0
  unfold slVal
  go_enter Try.func138, Try.ntmps138
  go_upto_region 1 with fail
  generalize (w.alloc (.cells #[.int .i64 x.mode, .int .i64 x.round, .int .i64 x.slot, .int .i64 x.desc.node, .int .i64 x.desc.kind, .int .i64 x.desc.size, .int .i64 x.desc.dur, .bool x.desc.chg] 38)).alloc (.cells #[.int .i64 0, .int .i64 0, .int .i64 0] 113) = w1 at HB HX HK ⊢
  obtain ⟨q0, q1, q2, q3, q4, q5, q6, q7⟩ := HX.out.all8
  have c0 := cell_of_row w1 _ 0 _ _ _ HK.out; have c1 := cell_of_row w1 _ 1 _ _ _ HK.out; have c2 := cell_of_row w1 _ 2 _ _ _ HK.out
  have f0 := frozen_of_row w1 _ 0 _ _ HK.out; have f1 := frozen_of_row w1 _ 1 _ _ HK.out; have f2 := frozen_of_row w1 _ 2 _ _ HK.out
  simp only [List.getElem?_toArray, List.getElem?_cons_zero, List.getElem?_cons_succ] at c0 c1 c2
  go_wp2_with fail
  clear c0 c1 c2 f0 f1 f2 q0 q1 q2 q3 q4 q5 q6 q7
  have k1 := heap_setCell_same w1 (w.heap.size + 1) 0 _ _ (.int .i64 x.mode) HK.out
  have k2 := heap_setCell_same _ (w.heap.size + 1) 1 _ _ (.int .i64 x.round) k1
  have k3 := heap_setCell_same _ (w.heap.size + 1) 2 _ _ (.int .i64 x.slot) k2
  have HBE := ((HB.out.setCell (p := ⟨w.heap.size + 1, 0, none⟩) (show w.heap.size ≤ w.heap.size + 1 by omega) (.int .i64 x.mode)).setCell (p := ⟨w.heap.size + 1, 1, none⟩) (show w.heap.size ≤ w.heap.size + 1 by omega) (.int .i64 x.round)).setCell (p := ⟨w.heap.size + 1, 2, none⟩) (show w.heap.size ≤ w.heap.size + 1 by omega) (.int .i64 x.slot)
  generalize ((w1.setCell ⟨w.heap.size + 1, 0, none⟩ (.int .i64 x.mode)).setCell ⟨w.heap.size + 1, 1, none⟩ (.int .i64 x.round)).setCell ⟨w.heap.size + 1, 2, none⟩ (.int .i64 x.slot) = w2 at k3 HBE ⊢
  have d0 : w2.cell? ⟨w.heap.size + 1, 0, none⟩ = some (.int .i64 x.mode) := by rw [cell_of_row _ _ 0 _ _ _ k3]; rfl
  have d1 : w2.cell? ⟨w.heap.size + 1, 1, none⟩ = some (.int .i64 x.round) := by rw [cell_of_row _ _ 1 _ _ _ k3]; rfl
  have d2 : w2.cell? ⟨w.heap.size + 1, 2, none⟩ = some (.int .i64 x.slot) := by rw [cell_of_row _ _ 2 _ _ _ k3]; rfl
  exact bodyPost_ret (v := keyV x.mode x.round x.slot) (by simp [keyV, results, Try.results138, go_sem, d0, d1, d2]) rfl ⟨rfl, HBE⟩

theorem slot_apart {w : World} {b n T : Nat} {f : Int → Int → Int → Option Ds} {x : Sl} (h : SlotMap w b n f) (h2 : SlBk T w b x) : False := by
  obtain ⟨D, ⟨es, clock, hb, -⟩, -⟩ := h
  have := h2.symm.trans hb
  cases this
/-! ### sentInSlots -/
set_option maxRecDepth 100000 in
set_option maxHeartbeats 2000000 in
set_option linter.unusedSimpArgs false in
theorem sentIn_any (ao : Option Addr) (n cap : Nat) (t : List Sl) (w : World) (hr : RdE w ao n t) (hn : n ≤ 1048576) (hwf : ∀ x ∈ t, wfE x) :
    Calls Try.prog 96 #[.slice ao n cap] w fun e w' => ∃ b, e = .returned (.map (some b)) ∧ w.heap.size ≤ b ∧ SlotMap w' b n (sent t) ∧ Below w.heap.size w w' := by
  have HL := Lib.hid hr.len
  have HR := Lib.hid hr
  have HWF := Lib.hid hwf
  have hmm := makeSlotMap
  have M0 := Lib.hid (slotMap_made w)
  have B0 := Lib.hid ((Below.refl w.heap.size w).alloc (Nat.le_refl _) (.map #[] 0))
  clear hr hwf
  go_enter Try.func96, Try.ntmps96
  go_wp2_with fail
  go_loopw [11] (fun i wr => ∃ k : Nat, k ≤ n ∧ i = .int .i64 k ∧ Hid (SlotMap wr w.heap.size k (sent (t.take k))) ∧ Hid (Below w.heap.size w wr)) (fun i _ => n - (intOf i).toNat)
  case atStart => exact ⟨0, Nat.zero_le _, rfl, M0.out, B0.out⟩
  case round =>
    clear M0 B0
    obtain ⟨k, hk, rfl, HM, HB⟩ := hrel
    by_cases hlt : k < n
    · obtain ⟨b, off, e0, hg, hx⟩ := HR.out.at hlt
      subst e0
      have hkt : k < t.length := by rw [HL.out]; exact hlt
      have HSN := Lib.hid (show sent (t.take (k + 1)) = updS (sent (t.take k)) (slOf t k).mode (slOf t k).round (slOf t k).slot (slOf t k).desc from by rw [slOf_get hkt, List.take_succ_eq_append_getElem hkt, sent_snoc])
      have HW := Lib.hid (HWF.out _ (slOf_mem hkt))
      have hxr := hx.below HB.out hg
      obtain ⟨x, hxe⟩ : ∃ x, x = slOf t k := ⟨_, rfl⟩
      rw [← hxe] at hxr HSN HW
      obtain ⟨q0, q1, q2, q3, q4, q5, q6, q7⟩ := hxr.all8
      have bal := (Below.refl wr.heap.size wr).alloc (Nat.le_refl _) (.cells #[.int .i64 x.mode, .int .i64 x.round, .int .i64 x.slot, .int .i64 x.desc.node, .int .i64 x.desc.kind, .int .i64 x.desc.size, .int .i64 x.desc.dur, .bool x.desc.chg] 38)
      have HX := Lib.hid (SlBk.new (T := 38) (x := x) wr)
      have HM1 := Lib.hid (HM.out.below bal)
      have HB1 := Lib.hid (below_two HB.out bal)
      clear hx hg hxe hkt bal
      go_upto_region 5 with fail
      clear q0 q1 q2 q3 q4 q5 q6 q7 hxr HM HB
      generalize wr.alloc (.cells #[.int .i64 x.mode, .int .i64 x.round, .int .i64 x.slot, .int .i64 x.desc.node, .int .i64 x.desc.kind, .int .i64 x.desc.size, .int .i64 x.desc.dur, .bool x.desc.chg] 38) = w1 at HX HM1 HB1 ⊢
      have HXW := Lib.hid (fun W (hW : Below w1.heap.size w1 W) => (HX.out.below hW HX.out.lt).all8)
      have HD := Lib.hid (show Below w1.heap.size w1 w1.drew from Below.drew (Below.refl _ _))
      have HKO := Lib.hid (fun W => keyOfS_any x W)
      unfold slVal at HKO
      refine wp_region_held_drew (S := fun w' => w'.cell? ⟨wr.heap.size, 0, none⟩ = some (Value.int .i64 x.mode) ∧ w'.cell? ⟨wr.heap.size, 1, none⟩ = some (Value.int .i64 x.round) ∧ w'.cell? ⟨wr.heap.size, 2, none⟩ = some (Value.int .i64 x.slot) ∧ w'.cell? ⟨wr.heap.size, 3, none⟩ = some (Value.int .i64 x.desc.node) ∧ w'.cell? ⟨wr.heap.size, 4, none⟩ = some (Value.int .i64 x.desc.kind) ∧ w'.cell? ⟨wr.heap.size, 5, none⟩ = some (Value.int .i64 x.desc.size) ∧ w'.cell? ⟨wr.heap.size, 6, none⟩ = some (Value.int .i64 x.desc.dur) ∧ w'.cell? ⟨wr.heap.size, 7, none⟩ = some (Value.bool x.desc.chg)) (by kernel_rfl) (HXW.out _ HD.out) (fun hHeld => ?_)
      generalize w1.drew = w2 at HD hHeld ⊢
      refine wpAnyH_take (i := 0) (v := ?_) rfl (by kernel_rfl) (by kernel_rfl) (by kernel_rfl) (fun _ _ _ h => h) (Or.inl ⟨by rfl, ?_⟩) (by assumption) ?_
      rotate_left
      · (intro w hSw; (try dsimp only at hSw); go_simp; (try with_reducible rfl))
      try simp only [List.getElem_toArray, List.getElem_cons_succ, List.getElem_cons_zero, Act.put, List.setIfInBounds_toArray, List.set_cons_zero, List.set_cons_succ]
      refine wpAnyH_take (i := 1) (v := ?_) rfl (by kernel_rfl) (by kernel_rfl) (by kernel_rfl) (fun _ _ _ h => h) (Or.inl ⟨by rfl, ?_⟩) (by assumption) ?_
      rotate_left
      · (intro w hSw; (try dsimp only at hSw); go_simp; (try with_reducible rfl))
      try simp only [List.getElem_toArray, List.getElem_cons_succ, List.getElem_cons_zero, Act.put, List.setIfInBounds_toArray, List.set_cons_zero, List.set_cons_succ]
      refine wpAnyH_take (i := 3) (v := ?_) rfl (by kernel_rfl) (by kernel_rfl) (by kernel_rfl) (fun _ _ _ h => h) (Or.inl ⟨by rfl, ?_⟩) (by assumption) ?_
      rotate_left
      · (intro w hSw; (try dsimp only at hSw); go_simp; (try with_reducible rfl))
      try simp only [List.getElem_toArray, List.getElem_cons_succ, List.getElem_cons_zero, Act.put, List.setIfInBounds_toArray, List.set_cons_zero, List.set_cons_succ]
      refine wpAnyH_take (i := 4) (v := ?_) rfl (by kernel_rfl) (by kernel_rfl) (by kernel_rfl) (fun _ _ _ h => h) (Or.inl ⟨by rfl, ?_⟩) (by assumption) ?_
      rotate_left
      · (intro w hSw; (try dsimp only at hSw); go_simp; (try with_reducible rfl))
      try simp only [List.getElem_toArray, List.getElem_cons_succ, List.getElem_cons_zero, Act.put, List.setIfInBounds_toArray, List.set_cons_zero, List.set_cons_succ]
      refine wpAnyH_ready (rs := [2]) (by kernel_rfl) (by simp) (AllReadyH.cons rfl (fun K hK => ?_) AllReadyH.nil)
      go_simp
      refine (HKO.out _).mono ?_
      rintro e w3 ⟨rfl, b3⟩
      have HD3 := Lib.hid (below_two HD.out b3); clear b3
      go_wp2_with fail
      refine hK.out _ _ ?_ (fun hHeld => ?_)
      · exact HXW.out _ HD3.out
      clear hK K
      try simp only [List.getElem_toArray, List.getElem_cons_succ, List.getElem_cons_zero, Act.put, List.setIfInBounds_toArray, List.set_cons_zero, List.set_cons_succ]
      refine wpAnyH_ready (rs := [5]) (by kernel_rfl) (by simp) (AllReadyH.cons rfl (fun K hK => ?_) AllReadyH.nil)
      refine storeS_op _ (.tmp 15) (.tmp 17) (.tmp 19) rfl w.heap.size k (sent (t.take k)) rfl (HM1.out.below HD3.out) (by omega) x.mode x.round x.slot x.desc rfl rfl HW.out ?_
      intro w4 m4 g4
      rw [← HSN.out] at m4
      have HM4 := Lib.hid m4
      have HB4 := Lib.hid ((below_two HB1.out HD3.out).grown g4 (below_two HB1.out HD3.out).size (fun q hq => by cases hq; exact Nat.le_refl _))
      have HX4 := Lib.hid ((HX.out.below HD3.out HX.out.lt).grown g4 (fun e => slot_apart (b := w.heap.size) HM1.out (by rw [← Option.some.inj e]; exact HX.out)))
      clear m4 g4
      refine hK.out _ _ ?_ (fun hHeld => ?_)
      · exact HX4.out.all8
      clear hK K
      try simp only [List.getElem_toArray, List.getElem_cons_succ, List.getElem_cons_zero, Act.put, List.setIfInBounds_toArray, List.set_cons_zero, List.set_cons_succ]
      refine wpAnyH_done (by kernel_rfl) ?_ _
      go_wp2_with fail
      go_roundw
      case rel => exact ⟨k + 1, by omega, by go_num, HM4, HB4⟩
      case measure => simp [intOf]; omega
    · have hkn : k = n := by omega
      subst hkn
      have ht : t.take k = t := List.take_of_length_le (by rw [HL.out]; exact Nat.le_refl _)
      rw [ht] at HM
      go_wp2_with fail
      go_ret
      exact ⟨_, rfl, Nat.le_refl _, HM.out, HB.out⟩
end Go.Proofs.Ytggnoeeaoligdaa
