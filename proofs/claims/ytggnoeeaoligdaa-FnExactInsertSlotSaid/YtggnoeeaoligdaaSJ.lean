/-
  Chapter 12: CompareSlots, of the program and of the model.
-/
import Derived.Test.YtggnoeeaoligdaaSI
import Derived.Test.YtggnoeeaoligdaaFiv
namespace Go.Proofs.Ytggnoeeaoligdaa
open Go.RowKit

/-- The first of several numbers that is not 0. -/
def orOf : List Int → Int
  | [] => 0
  | x :: r => if x = 0 then orOf r else x
theorem orOf_at : ∀ (xs : List Int) (k : Nat), k < xs.length → (∀ j, j < k → xs.getD j 0 = 0) → xs.getD k 0 ≠ 0 → orOf xs = xs.getD k 0
  | [], k, h, _, _ => by simp at h
  | x :: r, 0, _, _, hne => by unfold orOf; rw [if_neg (by simpa using hne)]; simp
  | x :: r, k + 1, h, hz, hne => by
    have h0 : x = 0 := by simpa using hz 0 (by omega)
    unfold orOf
    rw [if_pos h0, orOf_at r k (by simpa using h) (fun j hj => by simpa using hz (j + 1) (by omega)) (by simpa using hne)]
    simp
theorem orOf_none : ∀ (xs : List Int), (∀ j, j < xs.length → xs.getD j 0 = 0) → orOf xs = 0
  | [], _ => rfl
  | x :: r, hz => by
    have h0 : x = 0 := by simpa using hz 0 (by simp)
    unfold orOf
    rw [if_pos h0]
    exact orOf_none r (fun j hj => by simpa using hz (j + 1) (by simpa using hj))
theorem or_cmp (x y : Sl) : orOf [cmpI x.mode y.mode, cmpI x.round y.round, cmpI x.slot y.slot] = cmpSl x y := by
  unfold orOf orOf orOf orOf cmpI cmpSl
  repeat' split
  all_goals first | rfl | omega
set_option maxRecDepth 100000 in
set_option maxHeartbeats 1000000 in
theorem or_any (ao : Option Addr) (n cap : Nat) (xs : List Int) (w : World) (hr : Rd w ao n xs) (hn : n ≤ 1048576) :
    Calls Try.prog 94 #[.slice ao n cap] w fun e w' => e = .returned (.int .i64 (orOf xs)) ∧ w = w' := by
  have HL := Lib.hid hr.len
  have HR := Lib.hid hr
  clear hr
  go_enter Try.func94, Try.ntmps94
  go_wp2
  go_loopw [8] (fun i wr => ∃ k : Nat, k ≤ n ∧ i = .int .i64 k ∧ wr = w ∧ Hid (∀ j, j < k → xs.getD j 0 = 0)) (fun i _ => n - (intOf i).toNat)
  case atStart => exact ⟨0, Nat.zero_le _, rfl, rfl, fun i h => absurd h (by omega)⟩
  case round =>
    obtain ⟨k, hk, rfl, rfl, hall⟩ := hrel
    by_cases hlt : k < n
    · obtain ⟨b, off, rfl, hc⟩ := HR.out.here (by omega)
      have hck := hc k hlt
      have HAT := Lib.hid (fun h => orOf_at xs k (by rw [HL.out]; exact hlt) hall.out h)
      have HNX := Lib.hid (fun (h : xs.getD k 0 = 0) j (hj : j < k + 1) => (by
        rcases Nat.lt_or_ge j k with hl | hl
        · exact hall.out j hl
        · rw [show j = k from by omega]; exact h : xs.getD j 0 = 0))
      obtain ⟨x, hx⟩ : ∃ x, x = xs.getD k 0 := ⟨_, rfl⟩
      rw [← hx] at hck HAT HNX
      clear hc hx hall
      by_cases h0 : x = 0
      · have HF := Lib.hid (HNX.out h0)
        subst h0
        go_wp2
        go_roundw
        case rel => exact ⟨k + 1, by omega, by go_num, trivial, HF⟩
        case measure => simp [intOf]; omega
      · have HF := Lib.hid (HAT.out h0)
        have ht : (x != 0) = true := by simp [h0]
        go_wp2
        go_ret
        rw [HF.out]
        exact ⟨rfl, rfl⟩
    · have hkn : k = n := by omega
      subst hkn
      have HF := Lib.hid (orOf_none xs (by rw [HL.out]; exact hall.out))
      go_wp2
      go_ret
      rw [HF.out]
      exact ⟨rfl, rfl⟩
/-- Two entries laid by a call, read in whatever world comes behind. -/
structure TwoSl (W : World) (b1 b2 : Nat) (x y : Sl) : Prop where
  a : SlBk 38 W b1 x
  b : SlBk 38 W b2 y
theorem two_cells {w W : World} {b1 b2 : Nat} {x y : Sl} (hW : Below w.heap.size w W) (h : TwoSl w b1 b2 x y) : W.cell? ⟨b1, 0, none⟩ = some (.int .i64 x.mode) ∧ W.cell? ⟨b1, 1, none⟩ = some (.int .i64 x.round) ∧ W.cell? ⟨b1, 2, none⟩ = some (.int .i64 x.slot) ∧ W.cell? ⟨b2, 0, none⟩ = some (.int .i64 y.mode) ∧ W.cell? ⟨b2, 1, none⟩ = some (.int .i64 y.round) ∧ W.cell? ⟨b2, 2, none⟩ = some (.int .i64 y.slot) := by
  have h1 := (h.a.below hW h.a.lt).in_
  have h2 := (h.b.below hW h.b.lt).in_
  have a0 := h1.c0; have a1 := h1.c1; have a2 := h1.c2; have b0 := h2.c0; have b1 := h2.c1; have b2 := h2.c2
  simp only [Nat.zero_add] at a0 a1 a2 b0 b1 b2
  exact ⟨a0, a1, a2, b0, b1, b2⟩
theorem two_sl (w : World) (x y : Sl) : TwoSl ((w.alloc (.cells #[.int .i64 x.mode, .int .i64 x.round, .int .i64 x.slot, .int .i64 x.desc.node, .int .i64 x.desc.kind, .int .i64 x.desc.size, .int .i64 x.desc.dur, .bool x.desc.chg] 38)).alloc (.cells #[.int .i64 y.mode, .int .i64 y.round, .int .i64 y.slot, .int .i64 y.desc.node, .int .i64 y.desc.kind, .int .i64 y.desc.size, .int .i64 y.desc.dur, .bool y.desc.chg] 38)) w.heap.size (w.heap.size + 1) x y := by
  refine ⟨(SlBk.new w).below ((Below.refl _ _).alloc (Nat.le_refl _) _) (by simp), ?_⟩
  have h := SlBk.new (T := 38) (x := y) (w.alloc (.cells #[.int .i64 x.mode, .int .i64 x.round, .int .i64 x.slot, .int .i64 x.desc.node, .int .i64 x.desc.kind, .int .i64 x.desc.size, .int .i64 x.desc.dur, .bool x.desc.chg] 38))
  rw [World.size_alloc] at h
  exact h
set_option maxRecDepth 100000 in
set_option maxHeartbeats 2000000 in
set_option linter.unusedSimpArgs false in
theorem cmpSlI_any (x y : Sl) (w : World) : Calls Try.prog 32 #[slVal x, slVal y] w fun e w' => e = .returned (.int .i64 (cmpSl x y)) ∧ Below w.heap.size w w' := by
  have HT := Lib.hid (two_sl w x y)
  have HB := Lib.hid (show Below w.heap.size w ((w.alloc (.cells #[.int .i64 x.mode, .int .i64 x.round, .int .i64 x.slot, .int .i64 x.desc.node, .int .i64 x.desc.kind, .int .i64 x.desc.size, .int .i64 x.desc.dur, .bool x.desc.chg] 38)).alloc (.cells #[.int .i64 y.mode, .int .i64 y.round, .int .i64 y.slot, .int .i64 y.desc.node, .int .i64 y.desc.kind, .int .i64 y.desc.size, .int .i64 y.desc.dur, .bool y.desc.chg] 38)) from below_two ((Below.refl _ _).alloc (Nat.le_refl _) _) ((Below.refl _ _).alloc (Nat.le_refl _) _))
  have HC := Lib.hid (or_cmp x y)
  unfold slVal
  go_enter Try.func32, Try.ntmps32
  go_upto_region 1 with fail
  generalize hq : (w.alloc (.cells #[.int .i64 x.mode, .int .i64 x.round, .int .i64 x.slot, .int .i64 x.desc.node, .int .i64 x.desc.kind, .int .i64 x.desc.size, .int .i64 x.desc.dur, .bool x.desc.chg] 38)).alloc (.cells #[.int .i64 y.mode, .int .i64 y.round, .int .i64 y.slot, .int .i64 y.desc.node, .int .i64 y.desc.kind, .int .i64 y.desc.size, .int .i64 y.desc.dur, .bool y.desc.chg] 38) = w1 at HT HB ⊢
  clear hq
  have HA := Lib.hid (fun W (hW : Below w1.heap.size w1 W) => two_cells hW HT.out)
  obtain ⟨x0, hx0⟩ : ∃ v, v = x.mode := ⟨_, rfl⟩
  obtain ⟨x1, hx1⟩ : ∃ v, v = x.round := ⟨_, rfl⟩
  obtain ⟨x2, hx2⟩ : ∃ v, v = x.slot := ⟨_, rfl⟩
  obtain ⟨y0, hy0⟩ : ∃ v, v = y.mode := ⟨_, rfl⟩
  obtain ⟨y1, hy1⟩ : ∃ v, v = y.round := ⟨_, rfl⟩
  obtain ⟨y2, hy2⟩ : ∃ v, v = y.slot := ⟨_, rfl⟩
  rw [← hx0, ← hx1, ← hx2, ← hy0, ← hy1, ← hy2] at HA HC
  obtain ⟨z0, hz0⟩ : ∃ v, v = cmpI x0 y0 := ⟨_, rfl⟩
  obtain ⟨z1, hz1⟩ : ∃ v, v = cmpI x1 y1 := ⟨_, rfl⟩
  obtain ⟨z2, hz2⟩ : ∃ v, v = cmpI x2 y2 := ⟨_, rfl⟩
  rw [← hz0, ← hz1, ← hz2] at HC
  have i0 := fun W => compare_any x0 y0 W
  have i1 := fun W => compare_any x1 y1 W
  have i2 := fun W => compare_any x2 y2 W
  rw [← hz0] at i0
  rw [← hz1] at i1
  rw [← hz2] at i2
  clear hz0 hz1 hz2 hx0 hx1 hx2 hy0 hy1 hy2 HT
  have hbd : Below w1.heap.size w1 w1.drew := Below.drew (Below.refl _ _)
  have HD := Lib.hid hbd; clear hbd
  refine wp_region_held_drew (S := fun w' => w'.cell? ⟨w.heap.size, 0, none⟩ = some (.int .i64 x0) ∧ w'.cell? ⟨w.heap.size, 1, none⟩ = some (.int .i64 x1) ∧ w'.cell? ⟨w.heap.size, 2, none⟩ = some (.int .i64 x2) ∧ w'.cell? ⟨w.heap.size + 1, 0, none⟩ = some (.int .i64 y0) ∧ w'.cell? ⟨w.heap.size + 1, 1, none⟩ = some (.int .i64 y1) ∧ w'.cell? ⟨w.heap.size + 1, 2, none⟩ = some (.int .i64 y2)) (by kernel_rfl) (HA.out _ HD.out) (fun hHeld => ?_)
  generalize w1.drew = w2 at HD hHeld ⊢
  refine wpAnyH_take (i := 0) (v := ?_) rfl (by kernel_rfl) (by kernel_rfl) (by kernel_rfl) (fun _ _ _ h => h) (Or.inl ⟨by rfl, ?_⟩) (by assumption) ?_
  rotate_left
  · (intro w hSw; (try dsimp only at hSw); go_simp; (try with_reducible rfl))
  try simp only [List.getElem_toArray, List.getElem_cons_succ, List.getElem_cons_zero, Act.put, List.setIfInBounds_toArray, List.set_cons_zero, List.set_cons_succ]
  refine wpAnyH_take (i := 1) (v := ?_) rfl (by kernel_rfl) (by kernel_rfl) (by kernel_rfl) (fun _ _ _ h => h) (Or.inl ⟨by rfl, ?_⟩) (by assumption) ?_
  rotate_left
  · (intro w hSw; (try dsimp only at hSw); go_simp; (try with_reducible rfl))
  try simp only [List.getElem_toArray, List.getElem_cons_succ, List.getElem_cons_zero, Act.put, List.setIfInBounds_toArray, List.set_cons_zero, List.set_cons_succ]
  refine wpAnyH_take (i := 2) (v := ?_) rfl (by kernel_rfl) (by kernel_rfl) (by kernel_rfl) (fun _ _ _ h => h) (Or.inl ⟨by rfl, ?_⟩) (by assumption) ?_
  rotate_left
  · (intro w hSw; (try dsimp only at hSw); go_simp; (try with_reducible rfl))
  try simp only [List.getElem_toArray, List.getElem_cons_succ, List.getElem_cons_zero, Act.put, List.setIfInBounds_toArray, List.set_cons_zero, List.set_cons_succ]
  refine wpAnyH_take (i := 3) (v := ?_) rfl (by kernel_rfl) (by kernel_rfl) (by kernel_rfl) (fun _ _ _ h => h) (Or.inl ⟨by rfl, ?_⟩) (by assumption) ?_
  rotate_left
  · (intro w hSw; (try dsimp only at hSw); go_simp; (try with_reducible rfl))
  try simp only [List.getElem_toArray, List.getElem_cons_succ, List.getElem_cons_zero, Act.put, List.setIfInBounds_toArray, List.set_cons_zero, List.set_cons_succ]
  refine wpAnyH_take (i := 5) (v := ?_) rfl (by kernel_rfl) (by kernel_rfl) (by kernel_rfl) (fun _ _ _ h => h) (Or.inl ⟨by rfl, ?_⟩) (by assumption) ?_
  rotate_left
  · (intro w hSw; (try dsimp only at hSw); go_simp; (try with_reducible rfl))
  try simp only [List.getElem_toArray, List.getElem_cons_succ, List.getElem_cons_zero, Act.put, List.setIfInBounds_toArray, List.set_cons_zero, List.set_cons_succ]
  refine wpAnyH_take (i := 6) (v := ?_) rfl (by kernel_rfl) (by kernel_rfl) (by kernel_rfl) (fun _ _ _ h => h) (Or.inl ⟨by rfl, ?_⟩) (by assumption) ?_
  rotate_left
  · (intro w hSw; (try dsimp only at hSw); go_simp; (try with_reducible rfl))
  try simp only [List.getElem_toArray, List.getElem_cons_succ, List.getElem_cons_zero, Act.put, List.setIfInBounds_toArray, List.set_cons_zero, List.set_cons_succ]
  refine wpAnyH_take (i := 7) (v := ?_) rfl (by kernel_rfl) (by kernel_rfl) (by kernel_rfl) (fun _ _ _ h => h) (Or.inl ⟨by rfl, ?_⟩) (by assumption) ?_
  rotate_left
  · (intro w hSw; (try dsimp only at hSw); go_simp; (try with_reducible rfl))
  try simp only [List.getElem_toArray, List.getElem_cons_succ, List.getElem_cons_zero, Act.put, List.setIfInBounds_toArray, List.set_cons_zero, List.set_cons_succ]
  refine wpAnyH_take (i := 8) (v := ?_) rfl (by kernel_rfl) (by kernel_rfl) (by kernel_rfl) (fun _ _ _ h => h) (Or.inl ⟨by rfl, ?_⟩) (by assumption) ?_
  rotate_left
  · (intro w hSw; (try dsimp only at hSw); go_simp; (try with_reducible rfl))
  try simp only [List.getElem_toArray, List.getElem_cons_succ, List.getElem_cons_zero, Act.put, List.setIfInBounds_toArray, List.set_cons_zero, List.set_cons_succ]
  refine wpAnyH_take (i := 10) (v := ?_) rfl (by kernel_rfl) (by kernel_rfl) (by kernel_rfl) (fun _ _ _ h => h) (Or.inl ⟨by rfl, ?_⟩) (by assumption) ?_
  rotate_left
  · (intro w hSw; (try dsimp only at hSw); go_simp; (try with_reducible rfl))
  try simp only [List.getElem_toArray, List.getElem_cons_succ, List.getElem_cons_zero, Act.put, List.setIfInBounds_toArray, List.set_cons_zero, List.set_cons_succ]
  refine wpAnyH_take (i := 11) (v := ?_) rfl (by kernel_rfl) (by kernel_rfl) (by kernel_rfl) (fun _ _ _ h => h) (Or.inl ⟨by rfl, ?_⟩) (by assumption) ?_
  rotate_left
  · (intro w hSw; (try dsimp only at hSw); go_simp; (try with_reducible rfl))
  try simp only [List.getElem_toArray, List.getElem_cons_succ, List.getElem_cons_zero, Act.put, List.setIfInBounds_toArray, List.set_cons_zero, List.set_cons_succ]
  refine wpAnyH_take (i := 12) (v := ?_) rfl (by kernel_rfl) (by kernel_rfl) (by kernel_rfl) (fun _ _ _ h => h) (Or.inl ⟨by rfl, ?_⟩) (by assumption) ?_
  rotate_left
  · (intro w hSw; (try dsimp only at hSw); go_simp; (try with_reducible rfl))
  try simp only [List.getElem_toArray, List.getElem_cons_succ, List.getElem_cons_zero, Act.put, List.setIfInBounds_toArray, List.set_cons_zero, List.set_cons_succ]
  refine wpAnyH_take (i := 13) (v := ?_) rfl (by kernel_rfl) (by kernel_rfl) (by kernel_rfl) (fun _ _ _ h => h) (Or.inl ⟨by rfl, ?_⟩) (by assumption) ?_
  rotate_left
  · (intro w hSw; (try dsimp only at hSw); go_simp; (try with_reducible rfl))
  try simp only [List.getElem_toArray, List.getElem_cons_succ, List.getElem_cons_zero, Act.put, List.setIfInBounds_toArray, List.set_cons_zero, List.set_cons_succ]
  refine wpAnyH_ready (rs := [4]) (by kernel_rfl) (by simp) (AllReadyH.cons rfl (fun K hK => ?_) AllReadyH.nil)
  go_simp
  refine (i0 _).mono ?_
  rintro e w3 ⟨rfl, rfl⟩
  go_wp2_with fail
  refine hK.out _ _ ?_ (fun hHeld => ?_)
  · exact HA.out _ HD.out
  clear hK K
  try simp only [List.getElem_toArray, List.getElem_cons_succ, List.getElem_cons_zero, Act.put, List.setIfInBounds_toArray, List.set_cons_zero, List.set_cons_succ]
  refine wpAnyH_ready (rs := [9]) (by kernel_rfl) (by simp) (AllReadyH.cons rfl (fun K hK => ?_) AllReadyH.nil)
  go_simp
  refine (i1 _).mono ?_
  rintro e w3 ⟨rfl, rfl⟩
  go_wp2_with fail
  refine hK.out _ _ ?_ (fun hHeld => ?_)
  · exact HA.out _ HD.out
  clear hK K
  try simp only [List.getElem_toArray, List.getElem_cons_succ, List.getElem_cons_zero, Act.put, List.setIfInBounds_toArray, List.set_cons_zero, List.set_cons_succ]
  refine wpAnyH_ready (rs := [14]) (by kernel_rfl) (by simp) (AllReadyH.cons rfl (fun K hK => ?_) AllReadyH.nil)
  go_simp
  refine (i2 _).mono ?_
  rintro e w3 ⟨rfl, rfl⟩
  go_wp2_with fail
  refine hK.out _ _ ?_ (fun hHeld => ?_)
  · exact HA.out _ HD.out
  clear hK K
  try simp only [List.getElem_toArray, List.getElem_cons_succ, List.getElem_cons_zero, Act.put, List.setIfInBounds_toArray, List.set_cons_zero, List.set_cons_succ]
  refine wpAnyH_ready (rs := [15]) (by kernel_rfl) (by simp) (AllReadyH.cons rfl (fun K hK => ?_) AllReadyH.nil)
  go_simp
  have HD2 := Lib.hid (HD.out.alloc HD.out.size (.cells #[.int .i64 z0, .int .i64 z1, .int .i64 z2] 3))
  refine hK.out _ _ ?_ (fun hHeld => ?_)
  · exact HA.out _ HD2.out
  clear hK K
  try simp only [List.getElem_toArray, List.getElem_cons_succ, List.getElem_cons_zero, Act.put, List.setIfInBounds_toArray, List.set_cons_zero, List.set_cons_succ]
  refine wpAnyH_ready (rs := [16]) (by kernel_rfl) (by simp) (AllReadyH.cons rfl (fun K hK => ?_) AllReadyH.nil)
  go_simp
  refine (or_any _ 3 _ [z0, z1, z2] _ rdV3 (by omega)).mono ?_
  rintro e w3 ⟨rfl, rfl⟩
  rw [HC.out]
  go_wp2_with fail
  refine hK.out _ _ ?_ (fun hHeld => ?_)
  · exact HA.out _ HD2.out
  clear hK K
  try simp only [List.getElem_toArray, List.getElem_cons_succ, List.getElem_cons_zero, Act.put, List.setIfInBounds_toArray, List.set_cons_zero, List.set_cons_succ]
  refine wpAnyH_take (i := 17) (v := ?_) rfl (by kernel_rfl) (by kernel_rfl) (by kernel_rfl) (fun _ _ _ h => h) (Or.inl ⟨by rfl, ?_⟩) (by assumption) ?_
  rotate_left
  · (intro w hSw; (try dsimp only at hSw); go_simp; (try with_reducible rfl))
  try simp only [List.getElem_toArray, List.getElem_cons_succ, List.getElem_cons_zero, Act.put, List.setIfInBounds_toArray, List.set_cons_zero, List.set_cons_succ]
  refine wpAnyH_done (by kernel_rfl) ?_ _
  go_wp2_with fail
  go_ret
  exact ⟨rfl, below_two HB.out HD2.out⟩
end Go.Proofs.Ytggnoeeaoligdaa
