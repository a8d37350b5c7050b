/-
  Chapter 12: CompareSlots of the model; IsSlotTable of both.
-/
import Derived.Test.YtggnoeeaoligdaaSJ
namespace Go.Proofs.Ytggnoeeaoligdaa
open Go.RowKit

/-- Lists of numbers compared place by place. -/
def cmpL : List Int → List Int → Int
  | x :: r, y :: s => if x < y then -1 else if y < x then 1 else cmpL r s
  | _, _ => 0
theorem cmpL_at : ∀ (xs ys : List Int) (k : Nat), k < xs.length → k < ys.length → (∀ j, j < k → xs.getD j 0 = ys.getD j 0) → xs.getD k 0 ≠ ys.getD k 0 → cmpL xs ys = if xs.getD k 0 < ys.getD k 0 then -1 else 1
  | [], _, k, h, _, _, _ => by simp at h
  | _ :: _, [], k, _, h, _, _ => by simp at h
  | x :: r, y :: s, 0, _, _, _, hne => by
    have hne : x ≠ y := by simpa using hne
    unfold cmpL
    simp only [List.getD_cons_zero]
    repeat' split
    all_goals first | rfl | omega
  | x :: r, y :: s, k + 1, h1, h2, hz, hne => by
    have h0 : x = y := by simpa using hz 0 (by omega)
    unfold cmpL
    rw [if_neg (by omega), if_neg (by omega), cmpL_at r s k (by simpa using h1) (by simpa using h2) (fun j hj => by simpa using hz (j + 1) (by omega)) (by simpa using hne)]
    simp
theorem cmpL_eq : ∀ (xs ys : List Int), xs.length = ys.length → (∀ j, j < xs.length → xs.getD j 0 = ys.getD j 0) → cmpL xs ys = 0
  | [], _, _, _ => by unfold cmpL; rfl
  | _ :: _, [], h, _ => by simp at h
  | x :: r, y :: s, h, hz => by
    have h0 : x = y := by simpa using hz 0 (by simp)
    unfold cmpL
    rw [if_neg (by omega), if_neg (by omega)]
    exact cmpL_eq r s (by simpa using h) (fun j hj => by simpa using hz (j + 1) (by simpa using hj))
theorem cmpL_sl (x y : Sl) : cmpL [x.mode, x.round, x.slot] [y.mode, y.round, y.slot] = cmpSl x y := by
  unfold cmpL cmpL cmpL cmpL cmpSl
  rfl
set_option maxRecDepth 100000 in
set_option maxHeartbeats 4000000 in
set_option linter.unusedSimpArgs false in
theorem cmpSlS_any (x y : Sl) (w : World) : Calls Try.prog 33 #[slVal x, slVal y] w fun e w' => e = .returned (.int .i64 (cmpSl x y)) ∧ Below w.heap.size w w' := by
  have HT := Lib.hid (two_sl w x y)
  have HB := Lib.hid (show Below w.heap.size w ((w.alloc (.cells #[.int .i64 x.mode, .int .i64 x.round, .int .i64 x.slot, .int .i64 x.desc.node, .int .i64 x.desc.kind, .int .i64 x.desc.size, .int .i64 x.desc.dur, .bool x.desc.chg] 38)).alloc (.cells #[.int .i64 y.mode, .int .i64 y.round, .int .i64 y.slot, .int .i64 y.desc.node, .int .i64 y.desc.kind, .int .i64 y.desc.size, .int .i64 y.desc.dur, .bool y.desc.chg] 38)) from below_two ((Below.refl _ _).alloc (Nat.le_refl _) _) ((Below.refl _ _).alloc (Nat.le_refl _) _))
  have HC := Lib.hid (cmpL_sl x y)
  unfold slVal
  go_enter Try.func33, Try.ntmps33
  go_upto_region 1 with fail
  generalize hq : (w.alloc (.cells #[.int .i64 x.mode, .int .i64 x.round, .int .i64 x.slot, .int .i64 x.desc.node, .int .i64 x.desc.kind, .int .i64 x.desc.size, .int .i64 x.desc.dur, .bool x.desc.chg] 38)).alloc (.cells #[.int .i64 y.mode, .int .i64 y.round, .int .i64 y.slot, .int .i64 y.desc.node, .int .i64 y.desc.kind, .int .i64 y.desc.size, .int .i64 y.desc.dur, .bool y.desc.chg] 38) = w1 at HT HB ⊢
  clear hq
  have HA := Lib.hid (fun W (hW : Below w1.heap.size w1 W) => two_cells hW HT.out)
  obtain ⟨x0, hx0⟩ : ∃ v, v = x.mode := ⟨_, rfl⟩
  obtain ⟨x1, hx1⟩ : ∃ v, v = x.round := ⟨_, rfl⟩
  obtain ⟨x2, hx2⟩ : ∃ v, v = x.slot := ⟨_, rfl⟩
  obtain ⟨y0, hy0⟩ : ∃ v, v = y.mode := ⟨_, rfl⟩
  obtain ⟨y1, hy1⟩ : ∃ v, v = y.round := ⟨_, rfl⟩
  obtain ⟨y2, hy2⟩ : ∃ v, v = y.slot := ⟨_, rfl⟩
  rw [← hx0, ← hx1, ← hx2, ← hy0, ← hy1, ← hy2] at HA HC
  clear hx0 hx1 hx2 hy0 hy1 hy2 HT
  go_cut [5, 6] (fun s5 s6 wx => ∃ wy, wy = wx ∧ ∃ g h, s5 = .slice (some ⟨g, 0, none⟩) 3 3 ∧ s6 = .slice (some ⟨h, 0, none⟩) 3 3 ∧ Hid (Rd wy (some ⟨g, 0, none⟩) 3 [x0, x1, x2]) ∧ Hid (Rd wy (some ⟨h, 0, none⟩) 3 [y0, y1, y2]) ∧ Hid (Below w.heap.size w wy))
  case first =>
    have hbd : Below w1.heap.size w1 w1.drew := Below.drew (Below.refl _ _)
    have HD := Lib.hid hbd; clear hbd
    refine wp_region_held_drew (S := fun w' => w'.cell? ⟨w.heap.size, 0, none⟩ = some (.int .i64 x0) ∧ w'.cell? ⟨w.heap.size, 1, none⟩ = some (.int .i64 x1) ∧ w'.cell? ⟨w.heap.size, 2, none⟩ = some (.int .i64 x2) ∧ w'.cell? ⟨w.heap.size + 1, 0, none⟩ = some (.int .i64 y0) ∧ w'.cell? ⟨w.heap.size + 1, 1, none⟩ = some (.int .i64 y1) ∧ w'.cell? ⟨w.heap.size + 1, 2, none⟩ = some (.int .i64 y2)) (by kernel_rfl) (HA.out _ HD.out) (fun hHeld => ?_)
    generalize w1.drew = w2 at HD hHeld ⊢
    refine wpAnyH_take (i := 0) (v := ?_) rfl (by kernel_rfl) (by kernel_rfl) (by kernel_rfl) (fun _ _ _ h => h) (Or.inl ⟨by rfl, ?_⟩) (by assumption) ?_
    rotate_left
    · (intro w hSw; (try dsimp only at hSw); go_simp; (try with_reducible rfl))
    try simp only [List.getElem_toArray, List.getElem_cons_succ, List.getElem_cons_zero, Act.put, List.setIfInBounds_toArray, List.set_cons_zero, List.set_cons_succ]
    refine wpAnyH_take (i := 1) (v := ?_) rfl (by kernel_rfl) (by kernel_rfl) (by kernel_rfl) (fun _ _ _ h => h) (Or.inl ⟨by rfl, ?_⟩) (by assumption) ?_
    rotate_left
    · (intro w hSw; (try dsimp only at hSw); go_simp; (try with_reducible rfl))
    try simp only [List.getElem_toArray, List.getElem_cons_succ, List.getElem_cons_zero, Act.put, List.setIfInBounds_toArray, List.set_cons_zero, List.set_cons_succ]
    refine wpAnyH_take (i := 2) (v := ?_) rfl (by kernel_rfl) (by kernel_rfl) (by kernel_rfl) (fun _ _ _ h => h) (Or.inl ⟨by rfl, ?_⟩) (by assumption) ?_
    rotate_left
    · (intro w hSw; (try dsimp only at hSw); go_simp; (try with_reducible rfl))
    try simp only [List.getElem_toArray, List.getElem_cons_succ, List.getElem_cons_zero, Act.put, List.setIfInBounds_toArray, List.set_cons_zero, List.set_cons_succ]
    refine wpAnyH_take (i := 3) (v := ?_) rfl (by kernel_rfl) (by kernel_rfl) (by kernel_rfl) (fun _ _ _ h => h) (Or.inl ⟨by rfl, ?_⟩) (by assumption) ?_
    rotate_left
    · (intro w hSw; (try dsimp only at hSw); go_simp; (try with_reducible rfl))
    try simp only [List.getElem_toArray, List.getElem_cons_succ, List.getElem_cons_zero, Act.put, List.setIfInBounds_toArray, List.set_cons_zero, List.set_cons_succ]
    refine wpAnyH_take (i := 4) (v := ?_) rfl (by kernel_rfl) (by kernel_rfl) (by kernel_rfl) (fun _ _ _ h => h) (Or.inl ⟨by rfl, ?_⟩) (by assumption) ?_
    rotate_left
    · (intro w hSw; (try dsimp only at hSw); go_simp; (try with_reducible rfl))
    try simp only [List.getElem_toArray, List.getElem_cons_succ, List.getElem_cons_zero, Act.put, List.setIfInBounds_toArray, List.set_cons_zero, List.set_cons_succ]
    refine wpAnyH_take (i := 5) (v := ?_) rfl (by kernel_rfl) (by kernel_rfl) (by kernel_rfl) (fun _ _ _ h => h) (Or.inl ⟨by rfl, ?_⟩) (by assumption) ?_
    rotate_left
    · (intro w hSw; (try dsimp only at hSw); go_simp; (try with_reducible rfl))
    try simp only [List.getElem_toArray, List.getElem_cons_succ, List.getElem_cons_zero, Act.put, List.setIfInBounds_toArray, List.set_cons_zero, List.set_cons_succ]
    refine wpAnyH_take (i := 7) (v := ?_) rfl (by kernel_rfl) (by kernel_rfl) (by kernel_rfl) (fun _ _ _ h => h) (Or.inl ⟨by rfl, ?_⟩) (by assumption) ?_
    rotate_left
    · (intro w hSw; (try dsimp only at hSw); go_simp; (try with_reducible rfl))
    try simp only [List.getElem_toArray, List.getElem_cons_succ, List.getElem_cons_zero, Act.put, List.setIfInBounds_toArray, List.set_cons_zero, List.set_cons_succ]
    refine wpAnyH_take (i := 8) (v := ?_) rfl (by kernel_rfl) (by kernel_rfl) (by kernel_rfl) (fun _ _ _ h => h) (Or.inl ⟨by rfl, ?_⟩) (by assumption) ?_
    rotate_left
    · (intro w hSw; (try dsimp only at hSw); go_simp; (try with_reducible rfl))
    try simp only [List.getElem_toArray, List.getElem_cons_succ, List.getElem_cons_zero, Act.put, List.setIfInBounds_toArray, List.set_cons_zero, List.set_cons_succ]
    refine wpAnyH_take (i := 9) (v := ?_) rfl (by kernel_rfl) (by kernel_rfl) (by kernel_rfl) (fun _ _ _ h => h) (Or.inl ⟨by rfl, ?_⟩) (by assumption) ?_
    rotate_left
    · (intro w hSw; (try dsimp only at hSw); go_simp; (try with_reducible rfl))
    try simp only [List.getElem_toArray, List.getElem_cons_succ, List.getElem_cons_zero, Act.put, List.setIfInBounds_toArray, List.set_cons_zero, List.set_cons_succ]
    refine wpAnyH_take (i := 10) (v := ?_) rfl (by kernel_rfl) (by kernel_rfl) (by kernel_rfl) (fun _ _ _ h => h) (Or.inl ⟨by rfl, ?_⟩) (by assumption) ?_
    rotate_left
    · (intro w hSw; (try dsimp only at hSw); go_simp; (try with_reducible rfl))
    try simp only [List.getElem_toArray, List.getElem_cons_succ, List.getElem_cons_zero, Act.put, List.setIfInBounds_toArray, List.set_cons_zero, List.set_cons_succ]
    refine wpAnyH_take (i := 11) (v := ?_) rfl (by kernel_rfl) (by kernel_rfl) (by kernel_rfl) (fun _ _ _ h => h) (Or.inl ⟨by rfl, ?_⟩) (by assumption) ?_
    rotate_left
    · (intro w hSw; (try dsimp only at hSw); go_simp; (try with_reducible rfl))
    try simp only [List.getElem_toArray, List.getElem_cons_succ, List.getElem_cons_zero, Act.put, List.setIfInBounds_toArray, List.set_cons_zero, List.set_cons_succ]
    refine wpAnyH_take (i := 12) (v := ?_) rfl (by kernel_rfl) (by kernel_rfl) (by kernel_rfl) (fun _ _ _ h => h) (Or.inl ⟨by rfl, ?_⟩) (by assumption) ?_
    rotate_left
    · (intro w hSw; (try dsimp only at hSw); go_simp; (try with_reducible rfl))
    try simp only [List.getElem_toArray, List.getElem_cons_succ, List.getElem_cons_zero, Act.put, List.setIfInBounds_toArray, List.set_cons_zero, List.set_cons_succ]
    refine wpAnyH_ready (rs := [6, 13]) (by kernel_rfl) (by simp) (AllReadyH.cons rfl (fun K hK => ?_) (AllReadyH.cons rfl (fun K hK => ?_) AllReadyH.nil))
    · go_simp
      have HD2 := Lib.hid (HD.out.alloc HD.out.size (.cells #[.int .i64 x0, .int .i64 x1, .int .i64 x2] 2))
      have xR := Lib.hid (rdV3 (w := w2) (a := x0) (b := x1) (c := x2) (T := 2))
      refine hK.out _ _ ?_ (fun hHeld => ?_)
      · exact HA.out _ HD2.out
      clear hK K
      try simp only [List.getElem_toArray, List.getElem_cons_succ, List.getElem_cons_zero, Act.put, List.setIfInBounds_toArray, List.set_cons_zero, List.set_cons_succ]
      generalize w2.alloc (.cells #[.int .i64 x0, .int .i64 x1, .int .i64 x2] 2) = w3 at HD2 xR hHeld ⊢
      refine wpAnyH_take (i := 14) (v := ?_) rfl (by kernel_rfl) (by kernel_rfl) (by kernel_rfl) (fun _ _ _ h => h) (Or.inl ⟨by rfl, ?_⟩) (by assumption) ?_
      rotate_left
      · (intro w hSw; (try dsimp only at hSw); go_simp; (try with_reducible rfl))
      try simp only [List.getElem_toArray, List.getElem_cons_succ, List.getElem_cons_zero, Act.put, List.setIfInBounds_toArray, List.set_cons_zero, List.set_cons_succ]
      refine wpAnyH_ready (rs := [13]) (by kernel_rfl) (by simp) (AllReadyH.cons rfl (fun K hK => ?_) AllReadyH.nil)
      go_simp
      have HD3 := Lib.hid (HD2.out.alloc HD2.out.size (.cells #[.int .i64 y0, .int .i64 y1, .int .i64 y2] 2))
      have yR := Lib.hid (rdV3 (w := w3) (a := y0) (b := y1) (c := y2) (T := 2))
      refine hK.out _ _ ?_ (fun hHeld => ?_)
      · exact HA.out _ HD3.out
      clear hK K
      try simp only [List.getElem_toArray, List.getElem_cons_succ, List.getElem_cons_zero, Act.put, List.setIfInBounds_toArray, List.set_cons_zero, List.set_cons_succ]
      have xQ := Lib.hid (xR.out.below (Below.alloc (Below.refl w3.heap.size w3) (Nat.le_refl _) (.cells #[.int .i64 y0, .int .i64 y1, .int .i64 y2] 2)))
      have HB3 := Lib.hid (below_two HB.out HD3.out)
      refine wpAnyH_take (i := 15) (v := ?_) rfl (by kernel_rfl) (by kernel_rfl) (by kernel_rfl) (fun _ _ _ h => h) (Or.inl ⟨by rfl, ?_⟩) (by assumption) ?_
      rotate_left
      · (intro w hSw; (try dsimp only at hSw); go_simp; (try with_reducible rfl))
      try simp only [List.getElem_toArray, List.getElem_cons_succ, List.getElem_cons_zero, Act.put, List.setIfInBounds_toArray, List.set_cons_zero, List.set_cons_succ]
      refine wpAnyH_done (by kernel_rfl) ?_ _
      go_wp2_with fail
      go_meet
      exact ⟨_, rfl, _, _, rfl, rfl, xQ, yR, HB3⟩
    · go_simp
      have HD2 := Lib.hid (HD.out.alloc HD.out.size (.cells #[.int .i64 y0, .int .i64 y1, .int .i64 y2] 2))
      have yR := Lib.hid (rdV3 (w := w2) (a := y0) (b := y1) (c := y2) (T := 2))
      refine hK.out _ _ ?_ (fun hHeld => ?_)
      · exact HA.out _ HD2.out
      clear hK K
      try simp only [List.getElem_toArray, List.getElem_cons_succ, List.getElem_cons_zero, Act.put, List.setIfInBounds_toArray, List.set_cons_zero, List.set_cons_succ]
      generalize w2.alloc (.cells #[.int .i64 y0, .int .i64 y1, .int .i64 y2] 2) = w3 at HD2 yR hHeld ⊢
      refine wpAnyH_ready (rs := [6]) (by kernel_rfl) (by simp) (AllReadyH.cons rfl (fun K hK => ?_) AllReadyH.nil)
      go_simp
      have HD3 := Lib.hid (HD2.out.alloc HD2.out.size (.cells #[.int .i64 x0, .int .i64 x1, .int .i64 x2] 2))
      have xR := Lib.hid (rdV3 (w := w3) (a := x0) (b := x1) (c := x2) (T := 2))
      refine hK.out _ _ ?_ (fun hHeld => ?_)
      · exact HA.out _ HD3.out
      clear hK K
      try simp only [List.getElem_toArray, List.getElem_cons_succ, List.getElem_cons_zero, Act.put, List.setIfInBounds_toArray, List.set_cons_zero, List.set_cons_succ]
      have yQ := Lib.hid (yR.out.below (Below.alloc (Below.refl w3.heap.size w3) (Nat.le_refl _) (.cells #[.int .i64 x0, .int .i64 x1, .int .i64 x2] 2)))
      have HB3 := Lib.hid (below_two HB.out HD3.out)
      refine wpAnyH_take (i := 14) (v := ?_) rfl (by kernel_rfl) (by kernel_rfl) (by kernel_rfl) (fun _ _ _ h => h) (Or.inl ⟨by rfl, ?_⟩) (by assumption) ?_
      rotate_left
      · (intro w hSw; (try dsimp only at hSw); go_simp; (try with_reducible rfl))
      try simp only [List.getElem_toArray, List.getElem_cons_succ, List.getElem_cons_zero, Act.put, List.setIfInBounds_toArray, List.set_cons_zero, List.set_cons_succ]
      refine wpAnyH_take (i := 15) (v := ?_) rfl (by kernel_rfl) (by kernel_rfl) (by kernel_rfl) (fun _ _ _ h => h) (Or.inl ⟨by rfl, ?_⟩) (by assumption) ?_
      rotate_left
      · (intro w hSw; (try dsimp only at hSw); go_simp; (try with_reducible rfl))
      try simp only [List.getElem_toArray, List.getElem_cons_succ, List.getElem_cons_zero, Act.put, List.setIfInBounds_toArray, List.set_cons_zero, List.set_cons_succ]
      refine wpAnyH_done (by kernel_rfl) ?_ _
      go_wp2_with fail
      go_meet
      exact ⟨_, rfl, _, _, rfl, rfl, xR, yQ, HB3⟩
  case rest =>
    obtain ⟨wx, rfl, g, h, rfl, rfl, RX, RY, HB2⟩ := hcut
    clear HB
    obtain ⟨xs, hxs⟩ : ∃ xs, xs = [x0, x1, x2] := ⟨_, rfl⟩
    obtain ⟨ys, hys⟩ : ∃ ys, ys = [y0, y1, y2] := ⟨_, rfl⟩
    rw [← hxs] at RX HC
    rw [← hys] at RY HC
    have HXL := Lib.hid RX.out.len
    have HYL := Lib.hid RY.out.len
    clear hxs hys HA
    go_wp2
    go_loopw [7] (fun i wr => ∃ k : Nat, k ≤ 3 ∧ i = .int .i64 k ∧ Hid (Below wx.heap.size wx wr) ∧ Hid (∀ j, j < k → xs.getD j 0 = ys.getD j 0)) (fun i _ => 3 - (intOf i).toNat)
    case atStart => exact ⟨0, Nat.zero_le _, rfl, Below.refl _ _, fun i h => absurd h (by omega)⟩
    case round =>
      obtain ⟨k, hk, rfl, HBR, hall⟩ := hrel
      by_cases hlt : k < 3
      · have hcx : ∀ m, (wr.drewN m).cell? ⟨g, k, none⟩ = some (.int .i64 (xs.getD k 0)) := fun m => by
          obtain ⟨b, off, e, hc⟩ := (RX.out.below HBR.out).here (by omega)
          cases e
          have := hc k hlt
          rwa [Nat.zero_add] at this
        have hcy : ∀ m, (wr.drewN m).cell? ⟨h, k, none⟩ = some (.int .i64 (ys.getD k 0)) := fun m => by
          obtain ⟨b, off, e, hc⟩ := (RY.out.below HBR.out).here (by omega)
          cases e
          have := hc k hlt
          rwa [Nat.zero_add] at this
        have HAT := Lib.hid (fun hne => HC.out.symm.trans (cmpL_at xs ys k (by rw [HXL.out]; exact hlt) (by rw [HYL.out]; exact hlt) hall.out hne))
        have HNX := Lib.hid (fun (h : xs.getD k 0 = ys.getD k 0) j (hj : j < k + 1) => (by
          rcases Nat.lt_or_ge j k with hl | hl
          · exact hall.out j hl
          · rw [show j = k from by omega]; exact h : xs.getD j 0 = ys.getD j 0))
        obtain ⟨a, ha⟩ : ∃ a, a = xs.getD k 0 := ⟨_, rfl⟩
        obtain ⟨b, hb⟩ : ∃ b, b = ys.getD k 0 := ⟨_, rfl⟩
        rw [← ha] at hcx HAT HNX
        rw [← hb] at hcy HAT HNX
        clear ha hb hall
        by_cases h1 : a < b
        · have HF := Lib.hid (show cmpSl x y = -1 from (HAT.out (by omega)).trans (if_pos h1))
          go_wp2_with fail
          go_quiet (fail)
          go_wp2_with fail
          go_ret
          rw [HF.out]
          exact ⟨rfl, below_drewN' (below_two HB2.out HBR.out) _⟩
        · by_cases h2 : b < a
          · have HF := Lib.hid (show cmpSl x y = 1 from (HAT.out (by omega)).trans (if_neg h1))
            go_wp2_with fail
            go_quiet (fail)
            go_wp2_with fail
            go_quiet (fail)
            go_wp2_with fail
            go_ret
            rw [HF.out]
            exact ⟨rfl, below_drewN' (below_drewN' (below_two HB2.out HBR.out) _) _⟩
          · have HF := Lib.hid (HNX.out (by omega))
            go_wp2_with fail
            go_quiet (fail)
            go_wp2_with fail
            go_quiet (fail)
            go_wp2_with fail
            go_roundw
            case rel => exact ⟨k + 1, by omega, by go_num, below_drewN' HBR.out _, HF⟩
            case measure => simp [intOf]; omega
      · have hkn : k = 3 := by omega
        subst hkn
        have HF := Lib.hid (show cmpSl x y = 0 from HC.out.symm.trans (cmpL_eq xs ys (by rw [HXL.out, HYL.out]) (by rw [HXL.out]; exact hall.out)))
        go_wp2_with fail
        go_ret
        rw [HF.out]
        exact ⟨rfl, below_two HB2.out HBR.out⟩
end Go.Proofs.Ytggnoeeaoligdaa
