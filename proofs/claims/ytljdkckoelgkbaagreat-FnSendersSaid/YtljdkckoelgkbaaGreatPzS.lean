/-
  Contracts of the program's, the model's and the laws' functions, and plain mathematics, on which a proof of this claim stands (part S).
-/
import Derived.Deep.RegionHeld3
import Derived.Deep.DeepCutAuto
import Derived.BigQuiet
import Derived.Handy
import Derived.Laws.Pointers
import Derived.Maps.OwnSet
import Derived.Maps.OwnOps
import Derived.DeepKeys4
import Derived.Carry
import Derived.Test.YtljdkckoelgkbaaGreatPzA
namespace Go.Proofs.YtljdkckoelgkbaaGreat
section
section
open Go.RowKit
theorem infoSl : (Tryz.prog.info? 74).map (fun i => (i.zero, i.size, i.bytes)) = some (some (slVal Sl.zero), 8, 64) := by kernel_rfl
theorem sl_no {m r s : Int} {d : Ds} (h : inRange 0 15 m = false ∨ inRange 0 7 r = false ∨ inRange 0 15 s = false ∨ isDesc d = false) : isSl ⟨m, r, s, d⟩ = false := by
  unfold isSl
  rcases h with h | h | h | h <;> simp [h]
theorem sl_yes {m r s : Int} {d : Ds} (h1 : inRange 0 15 m = true) (h2 : inRange 0 7 r = true) (h3 : inRange 0 15 s = true) : isSl ⟨m, r, s, d⟩ = isDesc d := by
  unfold isSl
  simp [h1, h2, h3]
theorem range_no {a b x : Int} (h : ¬ a ≤ x ∨ ¬ x ≤ b) : inRange a b x = false := by
  rw [Bool.eq_false_iff]
  intro hc
  have := inRange_iff.1 hc
  omega
set_option maxRecDepth 100000 in
set_option maxHeartbeats 1000000 in
theorem isSlI_any (x : Sl) (w : World) : Calls Tryz.prog 160 #[slVal x] w fun e w' => e = .returned (.bool (isSl x)) ∧ Below w.heap.size w w' := by
  obtain ⟨m, r, s, ⟨n, a, z, u, c⟩⟩ := x
  unfold slVal
  dsimp only
  have hb : Below w.heap.size w (w.alloc (.cells #[.int .i64 m, .int .i64 r, .int .i64 s, .int .i64 n, .int .i64 a, .int .i64 z, .int .i64 u, .bool c] 74)) := (Below.refl _ _).alloc (Nat.le_refl _) _
  by_cases h0 : ¬ (0 ≤ m)
  · have HE := Lib.hid (sl_no (d := ⟨n, a, z, u, c⟩) (m := m) (r := r) (s := s) (.inl (range_no (.inl (by omega)))))
    have HB := Lib.hid hb; clear hb
    go_enter Tryz.func160, Tryz.ntmps160
    go_wp2
    go_ret
    rw [HE.out]
    exact ⟨rfl, HB.out⟩
  replace h0 := Classical.not_not.1 h0
  by_cases h1 : ¬ (m ≤ 15)
  · have HE := Lib.hid (sl_no (d := ⟨n, a, z, u, c⟩) (m := m) (r := r) (s := s) (.inl (range_no (.inr (by omega)))))
    have HB := Lib.hid hb; clear hb
    go_enter Tryz.func160, Tryz.ntmps160
    go_wp2
    go_ret
    rw [HE.out]
    exact ⟨rfl, HB.out⟩
  replace h1 := Classical.not_not.1 h1
  by_cases h2 : ¬ (0 ≤ r)
  · have HE := Lib.hid (sl_no (d := ⟨n, a, z, u, c⟩) (m := m) (r := r) (s := s) (.inr (.inl (range_no (.inl (by omega))))))
    have HB := Lib.hid hb; clear hb
    go_enter Tryz.func160, Tryz.ntmps160
    go_wp2
    go_ret
    rw [HE.out]
    exact ⟨rfl, HB.out⟩
  replace h2 := Classical.not_not.1 h2
  by_cases h3 : ¬ (r < 8)
  · have HE := Lib.hid (sl_no (d := ⟨n, a, z, u, c⟩) (m := m) (r := r) (s := s) (.inr (.inl (range_no (.inr (by omega))))))
    have HB := Lib.hid hb; clear hb
    go_enter Tryz.func160, Tryz.ntmps160
    go_wp2
    go_ret
    rw [HE.out]
    exact ⟨rfl, HB.out⟩
  replace h3 := Classical.not_not.1 h3
  by_cases h4 : ¬ (0 ≤ s)
  · have HE := Lib.hid (sl_no (d := ⟨n, a, z, u, c⟩) (m := m) (r := r) (s := s) (.inr (.inr (.inl (range_no (.inl (by omega)))))))
    have HB := Lib.hid hb; clear hb
    go_enter Tryz.func160, Tryz.ntmps160
    go_wp2
    go_ret
    rw [HE.out]
    exact ⟨rfl, HB.out⟩
  replace h4 := Classical.not_not.1 h4
  by_cases h5 : ¬ (s < 16)
  · have HE := Lib.hid (sl_no (d := ⟨n, a, z, u, c⟩) (m := m) (r := r) (s := s) (.inr (.inr (.inl (range_no (.inr (by omega)))))))
    have HB := Lib.hid hb; clear hb
    go_enter Tryz.func160, Tryz.ntmps160
    go_wp2
    go_ret
    rw [HE.out]
    exact ⟨rfl, HB.out⟩
  replace h5 := Classical.not_not.1 h5
  have HE := Lib.hid (sl_yes (m := m) (r := r) (s := s) (d := ⟨n, a, z, u, c⟩) (inRange_iff.2 ⟨h0, h1⟩) (inRange_iff.2 ⟨h2, by omega⟩) (inRange_iff.2 ⟨h4, by omega⟩))
  have HB := Lib.hid hb; clear hb
  go_enter Tryz.func160, Tryz.ntmps160
  go_wp2_with (go_at_call 179; refine (isDescriptor_any n a z u c _).mono ?_; rintro e w1 ⟨rfl, b1⟩)
  go_ret
  rw [HE.out]
  exact ⟨rfl, below_two HB.out b1⟩
set_option maxRecDepth 100000 in
set_option maxHeartbeats 1000000 in
theorem isSlS_any (x : Sl) (w : World) : Calls Tryz.prog 112 #[slVal x] w fun e w' => e = .returned (.bool (isSl x)) ∧ Below w.heap.size w w' := by
  obtain ⟨m, r, s, ⟨n, a, z, u, c⟩⟩ := x
  unfold slVal
  dsimp only
  have hb : Below w.heap.size w (w.alloc (.cells #[.int .i64 m, .int .i64 r, .int .i64 s, .int .i64 n, .int .i64 a, .int .i64 z, .int .i64 u, .bool c] 74)) := (Below.refl _ _).alloc (Nat.le_refl _) _
  have i1 := fun W => l01In_any m 0 15 W
  have i2 := fun W => l01In_any r 0 7 W
  have i3 := fun W => l01In_any s 0 15 W
  rcases h0 : inRange 0 15 m with _ | _
  · have HE := Lib.hid (sl_no (d := ⟨n, a, z, u, c⟩) (m := m) (r := r) (s := s) (.inl h0))
    have HB := Lib.hid hb; clear hb
    rw [h0] at i1
    go_enter Tryz.func112, Tryz.ntmps112
    go_wp2_with fail
    refine (i1 _).mono ?_
    rintro e w1 ⟨rfl, rfl⟩
    go_wp2_with fail
    go_ret
    rw [HE.out]
    exact ⟨rfl, HB.out⟩
  rcases h1 : inRange 0 7 r with _ | _
  · have HE := Lib.hid (sl_no (d := ⟨n, a, z, u, c⟩) (m := m) (r := r) (s := s) (.inr (.inl h1)))
    have HB := Lib.hid hb; clear hb
    rw [h0] at i1
    rw [h1] at i2
    go_enter Tryz.func112, Tryz.ntmps112
    go_wp2_with fail
    refine (i1 _).mono ?_
    rintro e w1 ⟨rfl, rfl⟩
    go_wp2_with fail
    refine (i2 _).mono ?_
    rintro e w1 ⟨rfl, rfl⟩
    go_wp2_with fail
    go_ret
    rw [HE.out]
    exact ⟨rfl, HB.out⟩
  rcases h2 : inRange 0 15 s with _ | _
  · have HE := Lib.hid (sl_no (d := ⟨n, a, z, u, c⟩) (m := m) (r := r) (s := s) (.inr (.inr (.inl h2))))
    have HB := Lib.hid hb; clear hb
    rw [h0] at i1
    rw [h1] at i2
    rw [h2] at i3
    go_enter Tryz.func112, Tryz.ntmps112
    go_wp2_with fail
    refine (i1 _).mono ?_
    rintro e w1 ⟨rfl, rfl⟩
    go_wp2_with fail
    refine (i2 _).mono ?_
    rintro e w1 ⟨rfl, rfl⟩
    go_wp2_with fail
    refine (i3 _).mono ?_
    rintro e w1 ⟨rfl, rfl⟩
    go_wp2_with fail
    go_ret
    rw [HE.out]
    exact ⟨rfl, HB.out⟩
  have HE := Lib.hid (sl_yes (m := m) (r := r) (s := s) (d := ⟨n, a, z, u, c⟩) h0 h1 h2)
  have HB := Lib.hid hb; clear hb
  rw [h0] at i1
  rw [h1] at i2
  rw [h2] at i3
  go_enter Tryz.func112, Tryz.ntmps112
  go_wp2_with fail
  refine (i1 _).mono ?_
  rintro e w1 ⟨rfl, rfl⟩
  go_wp2_with fail
  refine (i2 _).mono ?_
  rintro e w1 ⟨rfl, rfl⟩
  go_wp2_with fail
  refine (i3 _).mono ?_
  rintro e w1 ⟨rfl, rfl⟩
  go_wp2_with fail
  refine (sIsDescriptor_any n a z u c _).mono ?_
  rintro e w1 ⟨rfl, b1⟩
  go_wp2_with fail
  go_ret
  rw [HE.out]
  exact ⟨rfl, below_two HB.out b1⟩
def cmpI (a b : Int) : Int := if a < b then -1 else if b < a then 1 else 0
theorem notNaN_any (a : Int) (w : World) : Calls Tryz.prog 217 #[.int .i64 a] w fun e w' => e = .returned (.bool false) ∧ w = w' := by
  go_enter Tryz.func217, Tryz.ntmps217
  go_wp2
  go_ret
  exact ⟨by simp, rfl⟩
theorem compare_any (a b : Int) (w : World) : Calls Tryz.prog 197 #[.int .i64 a, .int .i64 b] w fun e w' => e = .returned (.int .i64 (cmpI a b)) ∧ w = w' := by
  unfold cmpI
  by_cases h1 : a < b
  · rw [if_pos h1]
    go_enter Tryz.func197, Tryz.ntmps197
    go_wp2_with (go_at_call 217; refine (notNaN_any _ _).mono ?_; rintro e w1 ⟨rfl, rfl⟩)
    go_ret
    exact ⟨rfl, rfl⟩
  · rw [if_neg h1]
    by_cases h2 : b < a
    · rw [if_pos h2]
      go_enter Tryz.func197, Tryz.ntmps197
      go_wp2_with (go_at_call 217; refine (notNaN_any _ _).mono ?_; rintro e w1 ⟨rfl, rfl⟩)
      go_ret
      exact ⟨rfl, rfl⟩
    · rw [if_neg h2]
      go_enter Tryz.func197, Tryz.ntmps197
      go_wp2_with (go_at_call 217; refine (notNaN_any _ _).mono ?_; rintro e w1 ⟨rfl, rfl⟩)
      go_ret
      exact ⟨rfl, rfl⟩
end
section
open Go.RowKit
def orOf : List Int → Int
  | [] => 0
  | x :: r => if x = 0 then orOf r else x
theorem orOf_at : ∀ (xs : List Int) (k : Nat), k < xs.length → (∀ j, j < k → xs.getD j 0 = 0) → xs.getD k 0 ≠ 0 → orOf xs = xs.getD k 0
  | [], k, h, _, _ => by simp at h
  | x :: r, 0, _, _, hne => by unfold orOf; rw [if_neg (by simpa using hne)]; simp
  | x :: r, k + 1, h, hz, hne => by
    have h0 : x = 0 := by simpa using hz 0 (by omega)
    unfold orOf
    rw [if_pos h0, orOf_at r k (by simpa using h) (fun j hj => by simpa using hz (j + 1) (by omega)) (by simpa using hne)]
    simp
theorem orOf_none : ∀ (xs : List Int), (∀ j, j < xs.length → xs.getD j 0 = 0) → orOf xs = 0
  | [], _ => rfl
  | x :: r, hz => by
    have h0 : x = 0 := by simpa using hz 0 (by simp)
    unfold orOf
    rw [if_pos h0]
    exact orOf_none r (fun j hj => by simpa using hz (j + 1) (by simpa using hj))
theorem or_cmp (x y : Sl) : orOf [cmpI x.mode y.mode, cmpI x.round y.round, cmpI x.slot y.slot] = cmpSl x y := by
  unfold orOf orOf orOf orOf cmpI cmpSl
  repeat' split
  all_goals first | rfl | omega
set_option maxRecDepth 100000 in
set_option maxHeartbeats 1000000 in
theorem or_any (ao : Option Addr) (n cap : Nat) (xs : List Int) (w : World) (hr : Rd w ao n xs) (hn : n ≤ 1048576) :
    Calls Tryz.prog 196 #[.slice ao n cap] w fun e w' => e = .returned (.int .i64 (orOf xs)) ∧ w = w' := by
  have HL := Lib.hid hr.len
  have HR := Lib.hid hr
  clear hr
  go_enter Tryz.func196, Tryz.ntmps196
  go_wp2
  go_loopw [8] (fun i wr => ∃ k : Nat, k ≤ n ∧ i = .int .i64 k ∧ wr = w ∧ Hid (∀ j, j < k → xs.getD j 0 = 0)) (fun i _ => n - (intOf i).toNat)
  case atStart => exact ⟨0, Nat.zero_le _, rfl, rfl, fun i h => absurd h (by omega)⟩
  case round =>
    obtain ⟨k, hk, rfl, rfl, hall⟩ := hrel
    by_cases hlt : k < n
    · obtain ⟨b, off, rfl, hc⟩ := HR.out.here (by omega)
      have hck := hc k hlt
      have HAT := Lib.hid (fun h => orOf_at xs k (by rw [HL.out]; exact hlt) hall.out h)
      have HNX := Lib.hid (fun (h : xs.getD k 0 = 0) j (hj : j < k + 1) => (by
        rcases Nat.lt_or_ge j k with hl | hl
        · exact hall.out j hl
        · rw [show j = k from by omega]; exact h : xs.getD j 0 = 0))
      obtain ⟨x, hx⟩ : ∃ x, x = xs.getD k 0 := ⟨_, rfl⟩
      rw [← hx] at hck HAT HNX
      clear hc hx hall
      by_cases h0 : x = 0
      · have HF := Lib.hid (HNX.out h0)
        subst h0
        go_wp2
        go_roundw
        case rel => exact ⟨k + 1, by omega, by go_num, trivial, HF⟩
        case measure => simp [intOf]; omega
      · have HF := Lib.hid (HAT.out h0)
        have ht : (x != 0) = true := by simp [h0]
        go_wp2
        go_ret
        rw [HF.out]
        exact ⟨rfl, rfl⟩
    · have hkn : k = n := by omega
      subst hkn
      have HF := Lib.hid (orOf_none xs (by rw [HL.out]; exact hall.out))
      go_wp2
      go_ret
      rw [HF.out]
      exact ⟨rfl, rfl⟩
structure TwoSl (W : World) (b1 b2 : Nat) (x y : Sl) : Prop where
  a : SlBk 74 W b1 x
  b : SlBk 74 W b2 y
theorem two_cells {w W : World} {b1 b2 : Nat} {x y : Sl} (hW : Below w.heap.size w W) (h : TwoSl w b1 b2 x y) : W.cell? ⟨b1, 0, none⟩ = some (.int .i64 x.mode) ∧ W.cell? ⟨b1, 1, none⟩ = some (.int .i64 x.round) ∧ W.cell? ⟨b1, 2, none⟩ = some (.int .i64 x.slot) ∧ W.cell? ⟨b2, 0, none⟩ = some (.int .i64 y.mode) ∧ W.cell? ⟨b2, 1, none⟩ = some (.int .i64 y.round) ∧ W.cell? ⟨b2, 2, none⟩ = some (.int .i64 y.slot) := by
  have h1 := (h.a.below hW h.a.lt).in_
  have h2 := (h.b.below hW h.b.lt).in_
  have a0 := h1.c0; have a1 := h1.c1; have a2 := h1.c2; have b0 := h2.c0; have b1 := h2.c1; have b2 := h2.c2
  simp only [Nat.zero_add] at a0 a1 a2 b0 b1 b2
  exact ⟨a0, a1, a2, b0, b1, b2⟩
theorem two_sl (w : World) (x y : Sl) : TwoSl ((w.alloc (.cells #[.int .i64 x.mode, .int .i64 x.round, .int .i64 x.slot, .int .i64 x.desc.node, .int .i64 x.desc.kind, .int .i64 x.desc.size, .int .i64 x.desc.dur, .bool x.desc.chg] 74)).alloc (.cells #[.int .i64 y.mode, .int .i64 y.round, .int .i64 y.slot, .int .i64 y.desc.node, .int .i64 y.desc.kind, .int .i64 y.desc.size, .int .i64 y.desc.dur, .bool y.desc.chg] 74)) w.heap.size (w.heap.size + 1) x y := by
  refine ⟨(SlBk.new w).below ((Below.refl _ _).alloc (Nat.le_refl _) _) (by simp), ?_⟩
  have h := SlBk.new (T := 74) (x := y) (w.alloc (.cells #[.int .i64 x.mode, .int .i64 x.round, .int .i64 x.slot, .int .i64 x.desc.node, .int .i64 x.desc.kind, .int .i64 x.desc.size, .int .i64 x.desc.dur, .bool x.desc.chg] 74))
  rw [World.size_alloc] at h
  exact h
set_option maxRecDepth 100000 in
set_option maxHeartbeats 2000000 in
set_option linter.unusedSimpArgs false in
theorem cmpSlI_any (x y : Sl) (w : World) : Calls Tryz.prog 161 #[slVal x, slVal y] w fun e w' => e = .returned (.int .i64 (cmpSl x y)) ∧ Below w.heap.size w w' := by
  have HT := Lib.hid (two_sl w x y)
  have HB := Lib.hid (show Below w.heap.size w ((w.alloc (.cells #[.int .i64 x.mode, .int .i64 x.round, .int .i64 x.slot, .int .i64 x.desc.node, .int .i64 x.desc.kind, .int .i64 x.desc.size, .int .i64 x.desc.dur, .bool x.desc.chg] 74)).alloc (.cells #[.int .i64 y.mode, .int .i64 y.round, .int .i64 y.slot, .int .i64 y.desc.node, .int .i64 y.desc.kind, .int .i64 y.desc.size, .int .i64 y.desc.dur, .bool y.desc.chg] 74)) from below_two ((Below.refl _ _).alloc (Nat.le_refl _) _) ((Below.refl _ _).alloc (Nat.le_refl _) _))
  have HC := Lib.hid (or_cmp x y)
  unfold slVal
  go_enter Tryz.func161, Tryz.ntmps161
  go_upto_region 1 with fail
  generalize hq : (w.alloc (.cells #[.int .i64 x.mode, .int .i64 x.round, .int .i64 x.slot, .int .i64 x.desc.node, .int .i64 x.desc.kind, .int .i64 x.desc.size, .int .i64 x.desc.dur, .bool x.desc.chg] 74)).alloc (.cells #[.int .i64 y.mode, .int .i64 y.round, .int .i64 y.slot, .int .i64 y.desc.node, .int .i64 y.desc.kind, .int .i64 y.desc.size, .int .i64 y.desc.dur, .bool y.desc.chg] 74) = w1 at HT HB ⊢
  clear hq
  have HA := Lib.hid (fun W (hW : Below w1.heap.size w1 W) => two_cells hW HT.out)
  obtain ⟨x0, hx0⟩ : ∃ v, v = x.mode := ⟨_, rfl⟩
  obtain ⟨x1, hx1⟩ : ∃ v, v = x.round := ⟨_, rfl⟩
  obtain ⟨x2, hx2⟩ : ∃ v, v = x.slot := ⟨_, rfl⟩
  obtain ⟨y0, hy0⟩ : ∃ v, v = y.mode := ⟨_, rfl⟩
  obtain ⟨y1, hy1⟩ : ∃ v, v = y.round := ⟨_, rfl⟩
  obtain ⟨y2, hy2⟩ : ∃ v, v = y.slot := ⟨_, rfl⟩
  rw [← hx0, ← hx1, ← hx2, ← hy0, ← hy1, ← hy2] at HA HC
  obtain ⟨z0, hz0⟩ : ∃ v, v = cmpI x0 y0 := ⟨_, rfl⟩
  obtain ⟨z1, hz1⟩ : ∃ v, v = cmpI x1 y1 := ⟨_, rfl⟩
  obtain ⟨z2, hz2⟩ : ∃ v, v = cmpI x2 y2 := ⟨_, rfl⟩
  rw [← hz0, ← hz1, ← hz2] at HC
  have i0 := fun W => compare_any x0 y0 W
  have i1 := fun W => compare_any x1 y1 W
  have i2 := fun W => compare_any x2 y2 W
  rw [← hz0] at i0
  rw [← hz1] at i1
  rw [← hz2] at i2
  clear hz0 hz1 hz2 hx0 hx1 hx2 hy0 hy1 hy2 HT
  have hbd : Below w1.heap.size w1 w1.drew := Below.drew (Below.refl _ _)
  have HD := Lib.hid hbd; clear hbd
  refine wp_region_held_drew (S := fun w' => w'.cell? ⟨w.heap.size, 0, none⟩ = some (.int .i64 x0) ∧ w'.cell? ⟨w.heap.size, 1, none⟩ = some (.int .i64 x1) ∧ w'.cell? ⟨w.heap.size, 2, none⟩ = some (.int .i64 x2) ∧ w'.cell? ⟨w.heap.size + 1, 0, none⟩ = some (.int .i64 y0) ∧ w'.cell? ⟨w.heap.size + 1, 1, none⟩ = some (.int .i64 y1) ∧ w'.cell? ⟨w.heap.size + 1, 2, none⟩ = some (.int .i64 y2)) (by kernel_rfl) (HA.out _ HD.out) (fun hHeld => ?_)
  generalize w1.drew = w2 at HD hHeld ⊢
  refine wpAnyH_take (i := 0) (v := ?_) rfl (by kernel_rfl) (by kernel_rfl) (by kernel_rfl) (fun _ _ _ h => h) (Or.inl ⟨by rfl, ?_⟩) (by assumption) ?_
  rotate_left
  · (intro w hSw; (try dsimp only at hSw); go_simp; (try with_reducible rfl))
  try simp only [List.getElem_toArray, List.getElem_cons_succ, List.getElem_cons_zero, Act.put, List.setIfInBounds_toArray, List.set_cons_zero, List.set_cons_succ]
  refine wpAnyH_take (i := 1) (v := ?_) rfl (by kernel_rfl) (by kernel_rfl) (by kernel_rfl) (fun _ _ _ h => h) (Or.inl ⟨by rfl, ?_⟩) (by assumption) ?_
  rotate_left
  · (intro w hSw; (try dsimp only at hSw); go_simp; (try with_reducible rfl))
  try simp only [List.getElem_toArray, List.getElem_cons_succ, List.getElem_cons_zero, Act.put, List.setIfInBounds_toArray, List.set_cons_zero, List.set_cons_succ]
  refine wpAnyH_take (i := 2) (v := ?_) rfl (by kernel_rfl) (by kernel_rfl) (by kernel_rfl) (fun _ _ _ h => h) (Or.inl ⟨by rfl, ?_⟩) (by assumption) ?_
  rotate_left
  · (intro w hSw; (try dsimp only at hSw); go_simp; (try with_reducible rfl))
  try simp only [List.getElem_toArray, List.getElem_cons_succ, List.getElem_cons_zero, Act.put, List.setIfInBounds_toArray, List.set_cons_zero, List.set_cons_succ]
  refine wpAnyH_take (i := 3) (v := ?_) rfl (by kernel_rfl) (by kernel_rfl) (by kernel_rfl) (fun _ _ _ h => h) (Or.inl ⟨by rfl, ?_⟩) (by assumption) ?_
  rotate_left
  · (intro w hSw; (try dsimp only at hSw); go_simp; (try with_reducible rfl))
  try simp only [List.getElem_toArray, List.getElem_cons_succ, List.getElem_cons_zero, Act.put, List.setIfInBounds_toArray, List.set_cons_zero, List.set_cons_succ]
  refine wpAnyH_take (i := 5) (v := ?_) rfl (by kernel_rfl) (by kernel_rfl) (by kernel_rfl) (fun _ _ _ h => h) (Or.inl ⟨by rfl, ?_⟩) (by assumption) ?_
  rotate_left
  · (intro w hSw; (try dsimp only at hSw); go_simp; (try with_reducible rfl))
  try simp only [List.getElem_toArray, List.getElem_cons_succ, List.getElem_cons_zero, Act.put, List.setIfInBounds_toArray, List.set_cons_zero, List.set_cons_succ]
  refine wpAnyH_take (i := 6) (v := ?_) rfl (by kernel_rfl) (by kernel_rfl) (by kernel_rfl) (fun _ _ _ h => h) (Or.inl ⟨by rfl, ?_⟩) (by assumption) ?_
  rotate_left
  · (intro w hSw; (try dsimp only at hSw); go_simp; (try with_reducible rfl))
  try simp only [List.getElem_toArray, List.getElem_cons_succ, List.getElem_cons_zero, Act.put, List.setIfInBounds_toArray, List.set_cons_zero, List.set_cons_succ]
  refine wpAnyH_take (i := 7) (v := ?_) rfl (by kernel_rfl) (by kernel_rfl) (by kernel_rfl) (fun _ _ _ h => h) (Or.inl ⟨by rfl, ?_⟩) (by assumption) ?_
  rotate_left
  · (intro w hSw; (try dsimp only at hSw); go_simp; (try with_reducible rfl))
  try simp only [List.getElem_toArray, List.getElem_cons_succ, List.getElem_cons_zero, Act.put, List.setIfInBounds_toArray, List.set_cons_zero, List.set_cons_succ]
  refine wpAnyH_take (i := 8) (v := ?_) rfl (by kernel_rfl) (by kernel_rfl) (by kernel_rfl) (fun _ _ _ h => h) (Or.inl ⟨by rfl, ?_⟩) (by assumption) ?_
  rotate_left
  · (intro w hSw; (try dsimp only at hSw); go_simp; (try with_reducible rfl))
  try simp only [List.getElem_toArray, List.getElem_cons_succ, List.getElem_cons_zero, Act.put, List.setIfInBounds_toArray, List.set_cons_zero, List.set_cons_succ]
  refine wpAnyH_take (i := 10) (v := ?_) rfl (by kernel_rfl) (by kernel_rfl) (by kernel_rfl) (fun _ _ _ h => h) (Or.inl ⟨by rfl, ?_⟩) (by assumption) ?_
  rotate_left
  · (intro w hSw; (try dsimp only at hSw); go_simp; (try with_reducible rfl))
  try simp only [List.getElem_toArray, List.getElem_cons_succ, List.getElem_cons_zero, Act.put, List.setIfInBounds_toArray, List.set_cons_zero, List.set_cons_succ]
  refine wpAnyH_take (i := 11) (v := ?_) rfl (by kernel_rfl) (by kernel_rfl) (by kernel_rfl) (fun _ _ _ h => h) (Or.inl ⟨by rfl, ?_⟩) (by assumption) ?_
  rotate_left
  · (intro w hSw; (try dsimp only at hSw); go_simp; (try with_reducible rfl))
  try simp only [List.getElem_toArray, List.getElem_cons_succ, List.getElem_cons_zero, Act.put, List.setIfInBounds_toArray, List.set_cons_zero, List.set_cons_succ]
  refine wpAnyH_take (i := 12) (v := ?_) rfl (by kernel_rfl) (by kernel_rfl) (by kernel_rfl) (fun _ _ _ h => h) (Or.inl ⟨by rfl, ?_⟩) (by assumption) ?_
  rotate_left
  · (intro w hSw; (try dsimp only at hSw); go_simp; (try with_reducible rfl))
  try simp only [List.getElem_toArray, List.getElem_cons_succ, List.getElem_cons_zero, Act.put, List.setIfInBounds_toArray, List.set_cons_zero, List.set_cons_succ]
  refine wpAnyH_take (i := 13) (v := ?_) rfl (by kernel_rfl) (by kernel_rfl) (by kernel_rfl) (fun _ _ _ h => h) (Or.inl ⟨by rfl, ?_⟩) (by assumption) ?_
  rotate_left
  · (intro w hSw; (try dsimp only at hSw); go_simp; (try with_reducible rfl))
  try simp only [List.getElem_toArray, List.getElem_cons_succ, List.getElem_cons_zero, Act.put, List.setIfInBounds_toArray, List.set_cons_zero, List.set_cons_succ]
  refine wpAnyH_ready (rs := [4]) (by kernel_rfl) (by simp) (AllReadyH.cons rfl (fun K hK => ?_) AllReadyH.nil)
  go_simp
  refine (i0 _).mono ?_
  rintro e w3 ⟨rfl, rfl⟩
  go_wp2_with fail
  refine hK.out _ _ ?_ (fun hHeld => ?_)
  · exact HA.out _ HD.out
  clear hK K
  try simp only [List.getElem_toArray, List.getElem_cons_succ, List.getElem_cons_zero, Act.put, List.setIfInBounds_toArray, List.set_cons_zero, List.set_cons_succ]
  refine wpAnyH_ready (rs := [9]) (by kernel_rfl) (by simp) (AllReadyH.cons rfl (fun K hK => ?_) AllReadyH.nil)
  go_simp
  refine (i1 _).mono ?_
  rintro e w3 ⟨rfl, rfl⟩
  go_wp2_with fail
  refine hK.out _ _ ?_ (fun hHeld => ?_)
  · exact HA.out _ HD.out
  clear hK K
  try simp only [List.getElem_toArray, List.getElem_cons_succ, List.getElem_cons_zero, Act.put, List.setIfInBounds_toArray, List.set_cons_zero, List.set_cons_succ]
  refine wpAnyH_ready (rs := [14]) (by kernel_rfl) (by simp) (AllReadyH.cons rfl (fun K hK => ?_) AllReadyH.nil)
  go_simp
  refine (i2 _).mono ?_
  rintro e w3 ⟨rfl, rfl⟩
  go_wp2_with fail
  refine hK.out _ _ ?_ (fun hHeld => ?_)
  · exact HA.out _ HD.out
  clear hK K
  try simp only [List.getElem_toArray, List.getElem_cons_succ, List.getElem_cons_zero, Act.put, List.setIfInBounds_toArray, List.set_cons_zero, List.set_cons_succ]
  refine wpAnyH_ready (rs := [15]) (by kernel_rfl) (by simp) (AllReadyH.cons rfl (fun K hK => ?_) AllReadyH.nil)
  go_simp
  have HD2 := Lib.hid (HD.out.alloc HD.out.size (.cells #[.int .i64 z0, .int .i64 z1, .int .i64 z2] 3))
  refine hK.out _ _ ?_ (fun hHeld => ?_)
  · exact HA.out _ HD2.out
  clear hK K
  try simp only [List.getElem_toArray, List.getElem_cons_succ, List.getElem_cons_zero, Act.put, List.setIfInBounds_toArray, List.set_cons_zero, List.set_cons_succ]
  refine wpAnyH_ready (rs := [16]) (by kernel_rfl) (by simp) (AllReadyH.cons rfl (fun K hK => ?_) AllReadyH.nil)
  go_simp
  refine (or_any _ 3 _ [z0, z1, z2] _ rdV3 (by omega)).mono ?_
  rintro e w3 ⟨rfl, rfl⟩
  rw [HC.out]
  go_wp2_with fail
  refine hK.out _ _ ?_ (fun hHeld => ?_)
  · exact HA.out _ HD2.out
  clear hK K
  try simp only [List.getElem_toArray, List.getElem_cons_succ, List.getElem_cons_zero, Act.put, List.setIfInBounds_toArray, List.set_cons_zero, List.set_cons_succ]
  refine wpAnyH_take (i := 17) (v := ?_) rfl (by kernel_rfl) (by kernel_rfl) (by kernel_rfl) (fun _ _ _ h => h) (Or.inl ⟨by rfl, ?_⟩) (by assumption) ?_
  rotate_left
  · (intro w hSw; (try dsimp only at hSw); go_simp; (try with_reducible rfl))
  try simp only [List.getElem_toArray, List.getElem_cons_succ, List.getElem_cons_zero, Act.put, List.setIfInBounds_toArray, List.set_cons_zero, List.set_cons_succ]
  refine wpAnyH_done (by kernel_rfl) ?_ _
  go_wp2_with fail
  go_ret
  exact ⟨rfl, below_two HB.out HD2.out⟩
end
section
open Go.RowKit
def cmpL : List Int → List Int → Int
  | x :: r, y :: s => if x < y then -1 else if y < x then 1 else cmpL r s
  | _, _ => 0
theorem cmpL_at : ∀ (xs ys : List Int) (k : Nat), k < xs.length → k < ys.length → (∀ j, j < k → xs.getD j 0 = ys.getD j 0) → xs.getD k 0 ≠ ys.getD k 0 → cmpL xs ys = if xs.getD k 0 < ys.getD k 0 then -1 else 1
  | [], _, k, h, _, _, _ => by simp at h
  | _ :: _, [], k, _, h, _, _ => by simp at h
  | x :: r, y :: s, 0, _, _, _, hne => by
    have hne : x ≠ y := by simpa using hne
    unfold cmpL
    simp only [List.getD_cons_zero]
    repeat' split
    all_goals first | rfl | omega
  | x :: r, y :: s, k + 1, h1, h2, hz, hne => by
    have h0 : x = y := by simpa using hz 0 (by omega)
    unfold cmpL
    rw [if_neg (by omega), if_neg (by omega), cmpL_at r s k (by simpa using h1) (by simpa using h2) (fun j hj => by simpa using hz (j + 1) (by omega)) (by simpa using hne)]
    simp
theorem cmpL_eq : ∀ (xs ys : List Int), xs.length = ys.length → (∀ j, j < xs.length → xs.getD j 0 = ys.getD j 0) → cmpL xs ys = 0
  | [], _, _, _ => by unfold cmpL; rfl
  | _ :: _, [], h, _ => by simp at h
  | x :: r, y :: s, h, hz => by
    have h0 : x = y := by simpa using hz 0 (by simp)
    unfold cmpL
    rw [if_neg (by omega), if_neg (by omega)]
    exact cmpL_eq r s (by simpa using h) (fun j hj => by simpa using hz (j + 1) (by simpa using hj))
theorem cmpL_sl (x y : Sl) : cmpL [x.mode, x.round, x.slot] [y.mode, y.round, y.slot] = cmpSl x y := by
  unfold cmpL cmpL cmpL cmpL cmpSl
  rfl
set_option maxRecDepth 100000 in
set_option maxHeartbeats 4000000 in
set_option linter.unusedSimpArgs false in
theorem cmpSlS_any (x y : Sl) (w : World) : Calls Tryz.prog 113 #[slVal x, slVal y] w fun e w' => e = .returned (.int .i64 (cmpSl x y)) ∧ Below w.heap.size w w' := by
  have HT := Lib.hid (two_sl w x y)
  have HB := Lib.hid (show Below w.heap.size w ((w.alloc (.cells #[.int .i64 x.mode, .int .i64 x.round, .int .i64 x.slot, .int .i64 x.desc.node, .int .i64 x.desc.kind, .int .i64 x.desc.size, .int .i64 x.desc.dur, .bool x.desc.chg] 74)).alloc (.cells #[.int .i64 y.mode, .int .i64 y.round, .int .i64 y.slot, .int .i64 y.desc.node, .int .i64 y.desc.kind, .int .i64 y.desc.size, .int .i64 y.desc.dur, .bool y.desc.chg] 74)) from below_two ((Below.refl _ _).alloc (Nat.le_refl _) _) ((Below.refl _ _).alloc (Nat.le_refl _) _))
  have HC := Lib.hid (cmpL_sl x y)
  unfold slVal
  go_enter Tryz.func113, Tryz.ntmps113
  go_upto_region 1 with fail
  generalize hq : (w.alloc (.cells #[.int .i64 x.mode, .int .i64 x.round, .int .i64 x.slot, .int .i64 x.desc.node, .int .i64 x.desc.kind, .int .i64 x.desc.size, .int .i64 x.desc.dur, .bool x.desc.chg] 74)).alloc (.cells #[.int .i64 y.mode, .int .i64 y.round, .int .i64 y.slot, .int .i64 y.desc.node, .int .i64 y.desc.kind, .int .i64 y.desc.size, .int .i64 y.desc.dur, .bool y.desc.chg] 74) = w1 at HT HB ⊢
  clear hq
  have HA := Lib.hid (fun W (hW : Below w1.heap.size w1 W) => two_cells hW HT.out)
  obtain ⟨x0, hx0⟩ : ∃ v, v = x.mode := ⟨_, rfl⟩
  obtain ⟨x1, hx1⟩ : ∃ v, v = x.round := ⟨_, rfl⟩
  obtain ⟨x2, hx2⟩ : ∃ v, v = x.slot := ⟨_, rfl⟩
  obtain ⟨y0, hy0⟩ : ∃ v, v = y.mode := ⟨_, rfl⟩
  obtain ⟨y1, hy1⟩ : ∃ v, v = y.round := ⟨_, rfl⟩
  obtain ⟨y2, hy2⟩ : ∃ v, v = y.slot := ⟨_, rfl⟩
  rw [← hx0, ← hx1, ← hx2, ← hy0, ← hy1, ← hy2] at HA HC
  clear hx0 hx1 hx2 hy0 hy1 hy2 HT
  go_cut [5, 6] (fun s5 s6 wx => ∃ wy, wy = wx ∧ ∃ g h, s5 = .slice (some ⟨g, 0, none⟩) 3 3 ∧ s6 = .slice (some ⟨h, 0, none⟩) 3 3 ∧ Hid (Rd wy (some ⟨g, 0, none⟩) 3 [x0, x1, x2]) ∧ Hid (Rd wy (some ⟨h, 0, none⟩) 3 [y0, y1, y2]) ∧ Hid (Below w.heap.size w wy))
  case first =>
    have hbd : Below w1.heap.size w1 w1.drew := Below.drew (Below.refl _ _)
    have HD := Lib.hid hbd; clear hbd
    refine wp_region_held_drew (S := fun w' => w'.cell? ⟨w.heap.size, 0, none⟩ = some (.int .i64 x0) ∧ w'.cell? ⟨w.heap.size, 1, none⟩ = some (.int .i64 x1) ∧ w'.cell? ⟨w.heap.size, 2, none⟩ = some (.int .i64 x2) ∧ w'.cell? ⟨w.heap.size + 1, 0, none⟩ = some (.int .i64 y0) ∧ w'.cell? ⟨w.heap.size + 1, 1, none⟩ = some (.int .i64 y1) ∧ w'.cell? ⟨w.heap.size + 1, 2, none⟩ = some (.int .i64 y2)) (by kernel_rfl) (HA.out _ HD.out) (fun hHeld => ?_)
    generalize w1.drew = w2 at HD hHeld ⊢
    refine wpAnyH_take (i := 0) (v := ?_) rfl (by kernel_rfl) (by kernel_rfl) (by kernel_rfl) (fun _ _ _ h => h) (Or.inl ⟨by rfl, ?_⟩) (by assumption) ?_
    rotate_left
    · (intro w hSw; (try dsimp only at hSw); go_simp; (try with_reducible rfl))
    try simp only [List.getElem_toArray, List.getElem_cons_succ, List.getElem_cons_zero, Act.put, List.setIfInBounds_toArray, List.set_cons_zero, List.set_cons_succ]
    refine wpAnyH_take (i := 1) (v := ?_) rfl (by kernel_rfl) (by kernel_rfl) (by kernel_rfl) (fun _ _ _ h => h) (Or.inl ⟨by rfl, ?_⟩) (by assumption) ?_
    rotate_left
    · (intro w hSw; (try dsimp only at hSw); go_simp; (try with_reducible rfl))
    try simp only [List.getElem_toArray, List.getElem_cons_succ, List.getElem_cons_zero, Act.put, List.setIfInBounds_toArray, List.set_cons_zero, List.set_cons_succ]
    refine wpAnyH_take (i := 2) (v := ?_) rfl (by kernel_rfl) (by kernel_rfl) (by kernel_rfl) (fun _ _ _ h => h) (Or.inl ⟨by rfl, ?_⟩) (by assumption) ?_
    rotate_left
    · (intro w hSw; (try dsimp only at hSw); go_simp; (try with_reducible rfl))
    try simp only [List.getElem_toArray, List.getElem_cons_succ, List.getElem_cons_zero, Act.put, List.setIfInBounds_toArray, List.set_cons_zero, List.set_cons_succ]
    refine wpAnyH_take (i := 3) (v := ?_) rfl (by kernel_rfl) (by kernel_rfl) (by kernel_rfl) (fun _ _ _ h => h) (Or.inl ⟨by rfl, ?_⟩) (by assumption) ?_
    rotate_left
    · (intro w hSw; (try dsimp only at hSw); go_simp; (try with_reducible rfl))
    try simp only [List.getElem_toArray, List.getElem_cons_succ, List.getElem_cons_zero, Act.put, List.setIfInBounds_toArray, List.set_cons_zero, List.set_cons_succ]
    refine wpAnyH_take (i := 4) (v := ?_) rfl (by kernel_rfl) (by kernel_rfl) (by kernel_rfl) (fun _ _ _ h => h) (Or.inl ⟨by rfl, ?_⟩) (by assumption) ?_
    rotate_left
    · (intro w hSw; (try dsimp only at hSw); go_simp; (try with_reducible rfl))
    try simp only [List.getElem_toArray, List.getElem_cons_succ, List.getElem_cons_zero, Act.put, List.setIfInBounds_toArray, List.set_cons_zero, List.set_cons_succ]
    refine wpAnyH_take (i := 5) (v := ?_) rfl (by kernel_rfl) (by kernel_rfl) (by kernel_rfl) (fun _ _ _ h => h) (Or.inl ⟨by rfl, ?_⟩) (by assumption) ?_
    rotate_left
    · (intro w hSw; (try dsimp only at hSw); go_simp; (try with_reducible rfl))
    try simp only [List.getElem_toArray, List.getElem_cons_succ, List.getElem_cons_zero, Act.put, List.setIfInBounds_toArray, List.set_cons_zero, List.set_cons_succ]
    refine wpAnyH_take (i := 7) (v := ?_) rfl (by kernel_rfl) (by kernel_rfl) (by kernel_rfl) (fun _ _ _ h => h) (Or.inl ⟨by rfl, ?_⟩) (by assumption) ?_
    rotate_left
    · (intro w hSw; (try dsimp only at hSw); go_simp; (try with_reducible rfl))
    try simp only [List.getElem_toArray, List.getElem_cons_succ, List.getElem_cons_zero, Act.put, List.setIfInBounds_toArray, List.set_cons_zero, List.set_cons_succ]
    refine wpAnyH_take (i := 8) (v := ?_) rfl (by kernel_rfl) (by kernel_rfl) (by kernel_rfl) (fun _ _ _ h => h) (Or.inl ⟨by rfl, ?_⟩) (by assumption) ?_
    rotate_left
    · (intro w hSw; (try dsimp only at hSw); go_simp; (try with_reducible rfl))
    try simp only [List.getElem_toArray, List.getElem_cons_succ, List.getElem_cons_zero, Act.put, List.setIfInBounds_toArray, List.set_cons_zero, List.set_cons_succ]
    refine wpAnyH_take (i := 9) (v := ?_) rfl (by kernel_rfl) (by kernel_rfl) (by kernel_rfl) (fun _ _ _ h => h) (Or.inl ⟨by rfl, ?_⟩) (by assumption) ?_
    rotate_left
    · (intro w hSw; (try dsimp only at hSw); go_simp; (try with_reducible rfl))
    try simp only [List.getElem_toArray, List.getElem_cons_succ, List.getElem_cons_zero, Act.put, List.setIfInBounds_toArray, List.set_cons_zero, List.set_cons_succ]
    refine wpAnyH_take (i := 10) (v := ?_) rfl (by kernel_rfl) (by kernel_rfl) (by kernel_rfl) (fun _ _ _ h => h) (Or.inl ⟨by rfl, ?_⟩) (by assumption) ?_
    rotate_left
    · (intro w hSw; (try dsimp only at hSw); go_simp; (try with_reducible rfl))
    try simp only [List.getElem_toArray, List.getElem_cons_succ, List.getElem_cons_zero, Act.put, List.setIfInBounds_toArray, List.set_cons_zero, List.set_cons_succ]
    refine wpAnyH_take (i := 11) (v := ?_) rfl (by kernel_rfl) (by kernel_rfl) (by kernel_rfl) (fun _ _ _ h => h) (Or.inl ⟨by rfl, ?_⟩) (by assumption) ?_
    rotate_left
    · (intro w hSw; (try dsimp only at hSw); go_simp; (try with_reducible rfl))
    try simp only [List.getElem_toArray, List.getElem_cons_succ, List.getElem_cons_zero, Act.put, List.setIfInBounds_toArray, List.set_cons_zero, List.set_cons_succ]
    refine wpAnyH_take (i := 12) (v := ?_) rfl (by kernel_rfl) (by kernel_rfl) (by kernel_rfl) (fun _ _ _ h => h) (Or.inl ⟨by rfl, ?_⟩) (by assumption) ?_
    rotate_left
    · (intro w hSw; (try dsimp only at hSw); go_simp; (try with_reducible rfl))
    try simp only [List.getElem_toArray, List.getElem_cons_succ, List.getElem_cons_zero, Act.put, List.setIfInBounds_toArray, List.set_cons_zero, List.set_cons_succ]
    refine wpAnyH_ready (rs := [6, 13]) (by kernel_rfl) (by simp) (AllReadyH.cons rfl (fun K hK => ?_) (AllReadyH.cons rfl (fun K hK => ?_) AllReadyH.nil))
    · go_simp
      have HD2 := Lib.hid (HD.out.alloc HD.out.size (.cells #[.int .i64 x0, .int .i64 x1, .int .i64 x2] 2))
      have xR := Lib.hid (rdV3 (w := w2) (a := x0) (b := x1) (c := x2) (T := 2))
      refine hK.out _ _ ?_ (fun hHeld => ?_)
      · exact HA.out _ HD2.out
      clear hK K
      try simp only [List.getElem_toArray, List.getElem_cons_succ, List.getElem_cons_zero, Act.put, List.setIfInBounds_toArray, List.set_cons_zero, List.set_cons_succ]
      generalize w2.alloc (.cells #[.int .i64 x0, .int .i64 x1, .int .i64 x2] 2) = w3 at HD2 xR hHeld ⊢
      refine wpAnyH_take (i := 14) (v := ?_) rfl (by kernel_rfl) (by kernel_rfl) (by kernel_rfl) (fun _ _ _ h => h) (Or.inl ⟨by rfl, ?_⟩) (by assumption) ?_
      rotate_left
      · (intro w hSw; (try dsimp only at hSw); go_simp; (try with_reducible rfl))
      try simp only [List.getElem_toArray, List.getElem_cons_succ, List.getElem_cons_zero, Act.put, List.setIfInBounds_toArray, List.set_cons_zero, List.set_cons_succ]
      refine wpAnyH_ready (rs := [13]) (by kernel_rfl) (by simp) (AllReadyH.cons rfl (fun K hK => ?_) AllReadyH.nil)
      go_simp
      have HD3 := Lib.hid (HD2.out.alloc HD2.out.size (.cells #[.int .i64 y0, .int .i64 y1, .int .i64 y2] 2))
      have yR := Lib.hid (rdV3 (w := w3) (a := y0) (b := y1) (c := y2) (T := 2))
      refine hK.out _ _ ?_ (fun hHeld => ?_)
      · exact HA.out _ HD3.out
      clear hK K
      try simp only [List.getElem_toArray, List.getElem_cons_succ, List.getElem_cons_zero, Act.put, List.setIfInBounds_toArray, List.set_cons_zero, List.set_cons_succ]
      have xQ := Lib.hid (xR.out.below (Below.alloc (Below.refl w3.heap.size w3) (Nat.le_refl _) (.cells #[.int .i64 y0, .int .i64 y1, .int .i64 y2] 2)))
      have HB3 := Lib.hid (below_two HB.out HD3.out)
      refine wpAnyH_take (i := 15) (v := ?_) rfl (by kernel_rfl) (by kernel_rfl) (by kernel_rfl) (fun _ _ _ h => h) (Or.inl ⟨by rfl, ?_⟩) (by assumption) ?_
      rotate_left
      · (intro w hSw; (try dsimp only at hSw); go_simp; (try with_reducible rfl))
      try simp only [List.getElem_toArray, List.getElem_cons_succ, List.getElem_cons_zero, Act.put, List.setIfInBounds_toArray, List.set_cons_zero, List.set_cons_succ]
      refine wpAnyH_done (by kernel_rfl) ?_ _
      go_wp2_with fail
      go_meet
      exact ⟨_, rfl, _, _, rfl, rfl, xQ, yR, HB3⟩
    · go_simp
      have HD2 := Lib.hid (HD.out.alloc HD.out.size (.cells #[.int .i64 y0, .int .i64 y1, .int .i64 y2] 2))
      have yR := Lib.hid (rdV3 (w := w2) (a := y0) (b := y1) (c := y2) (T := 2))
      refine hK.out _ _ ?_ (fun hHeld => ?_)
      · exact HA.out _ HD2.out
      clear hK K
      try simp only [List.getElem_toArray, List.getElem_cons_succ, List.getElem_cons_zero, Act.put, List.setIfInBounds_toArray, List.set_cons_zero, List.set_cons_succ]
      generalize w2.alloc (.cells #[.int .i64 y0, .int .i64 y1, .int .i64 y2] 2) = w3 at HD2 yR hHeld ⊢
      refine wpAnyH_ready (rs := [6]) (by kernel_rfl) (by simp) (AllReadyH.cons rfl (fun K hK => ?_) AllReadyH.nil)
      go_simp
      have HD3 := Lib.hid (HD2.out.alloc HD2.out.size (.cells #[.int .i64 x0, .int .i64 x1, .int .i64 x2] 2))
      have xR := Lib.hid (rdV3 (w := w3) (a := x0) (b := x1) (c := x2) (T := 2))
      refine hK.out _ _ ?_ (fun hHeld => ?_)
      · exact HA.out _ HD3.out
      clear hK K
      try simp only [List.getElem_toArray, List.getElem_cons_succ, List.getElem_cons_zero, Act.put, List.setIfInBounds_toArray, List.set_cons_zero, List.set_cons_succ]
      have yQ := Lib.hid (yR.out.below (Below.alloc (Below.refl w3.heap.size w3) (Nat.le_refl _) (.cells #[.int .i64 x0, .int .i64 x1, .int .i64 x2] 2)))
      have HB3 := Lib.hid (below_two HB.out HD3.out)
      refine wpAnyH_take (i := 14) (v := ?_) rfl (by kernel_rfl) (by kernel_rfl) (by kernel_rfl) (fun _ _ _ h => h) (Or.inl ⟨by rfl, ?_⟩) (by assumption) ?_
      rotate_left
      · (intro w hSw; (try dsimp only at hSw); go_simp; (try with_reducible rfl))
      try simp only [List.getElem_toArray, List.getElem_cons_succ, List.getElem_cons_zero, Act.put, List.setIfInBounds_toArray, List.set_cons_zero, List.set_cons_succ]
      refine wpAnyH_take (i := 15) (v := ?_) rfl (by kernel_rfl) (by kernel_rfl) (by kernel_rfl) (fun _ _ _ h => h) (Or.inl ⟨by rfl, ?_⟩) (by assumption) ?_
      rotate_left
      · (intro w hSw; (try dsimp only at hSw); go_simp; (try with_reducible rfl))
      try simp only [List.getElem_toArray, List.getElem_cons_succ, List.getElem_cons_zero, Act.put, List.setIfInBounds_toArray, List.set_cons_zero, List.set_cons_succ]
      refine wpAnyH_done (by kernel_rfl) ?_ _
      go_wp2_with fail
      go_meet
      exact ⟨_, rfl, _, _, rfl, rfl, xR, yQ, HB3⟩
  case rest =>
    obtain ⟨wx, rfl, g, h, rfl, rfl, RX, RY, HB2⟩ := hcut
    clear HB
    obtain ⟨xs, hxs⟩ : ∃ xs, xs = [x0, x1, x2] := ⟨_, rfl⟩
    obtain ⟨ys, hys⟩ : ∃ ys, ys = [y0, y1, y2] := ⟨_, rfl⟩
    rw [← hxs] at RX HC
    rw [← hys] at RY HC
    have HXL := Lib.hid RX.out.len
    have HYL := Lib.hid RY.out.len
    clear hxs hys HA
    go_wp2
    go_loopw [7] (fun i wr => ∃ k : Nat, k ≤ 3 ∧ i = .int .i64 k ∧ Hid (Below wx.heap.size wx wr) ∧ Hid (∀ j, j < k → xs.getD j 0 = ys.getD j 0)) (fun i _ => 3 - (intOf i).toNat)
    case atStart => exact ⟨0, Nat.zero_le _, rfl, Below.refl _ _, fun i h => absurd h (by omega)⟩
    case round =>
      obtain ⟨k, hk, rfl, HBR, hall⟩ := hrel
      by_cases hlt : k < 3
      · have hcx : ∀ m, (wr.drewN m).cell? ⟨g, k, none⟩ = some (.int .i64 (xs.getD k 0)) := fun m => by
          obtain ⟨b, off, e, hc⟩ := (RX.out.below HBR.out).here (by omega)
          cases e
          have := hc k hlt
          rwa [Nat.zero_add] at this
        have hcy : ∀ m, (wr.drewN m).cell? ⟨h, k, none⟩ = some (.int .i64 (ys.getD k 0)) := fun m => by
          obtain ⟨b, off, e, hc⟩ := (RY.out.below HBR.out).here (by omega)
          cases e
          have := hc k hlt
          rwa [Nat.zero_add] at this
        have HAT := Lib.hid (fun hne => HC.out.symm.trans (cmpL_at xs ys k (by rw [HXL.out]; exact hlt) (by rw [HYL.out]; exact hlt) hall.out hne))
        have HNX := Lib.hid (fun (h : xs.getD k 0 = ys.getD k 0) j (hj : j < k + 1) => (by
          rcases Nat.lt_or_ge j k with hl | hl
          · exact hall.out j hl
          · rw [show j = k from by omega]; exact h : xs.getD j 0 = ys.getD j 0))
        obtain ⟨a, ha⟩ : ∃ a, a = xs.getD k 0 := ⟨_, rfl⟩
        obtain ⟨b, hb⟩ : ∃ b, b = ys.getD k 0 := ⟨_, rfl⟩
        rw [← ha] at hcx HAT HNX
        rw [← hb] at hcy HAT HNX
        clear ha hb hall
        by_cases h1 : a < b
        · have HF := Lib.hid (show cmpSl x y = -1 from (HAT.out (by omega)).trans (if_pos h1))
          go_wp2_with fail
          go_quiet (fail)
          go_wp2_with fail
          go_ret
          rw [HF.out]
          exact ⟨rfl, below_drewN' (below_two HB2.out HBR.out) _⟩
        · by_cases h2 : b < a
          · have HF := Lib.hid (show cmpSl x y = 1 from (HAT.out (by omega)).trans (if_neg h1))
            go_wp2_with fail
            go_quiet (fail)
            go_wp2_with fail
            go_quiet (fail)
            go_wp2_with fail
            go_ret
            rw [HF.out]
            exact ⟨rfl, below_drewN' (below_drewN' (below_two HB2.out HBR.out) _) _⟩
          · have HF := Lib.hid (HNX.out (by omega))
            go_wp2_with fail
            go_quiet (fail)
            go_wp2_with fail
            go_quiet (fail)
            go_wp2_with fail
            go_roundw
            case rel => exact ⟨k + 1, by omega, by go_num, below_drewN' HBR.out _, HF⟩
            case measure => simp [intOf]; omega
      · have hkn : k = 3 := by omega
        subst hkn
        have HF := Lib.hid (show cmpSl x y = 0 from HC.out.symm.trans (cmpL_eq xs ys (by rw [HXL.out, HYL.out]) (by rw [HXL.out]; exact hall.out)))
        go_wp2_with fail
        go_ret
        rw [HF.out]
        exact ⟨rfl, below_two HB2.out HBR.out⟩
end
section
open Go.RowKit
theorem SlIn.all8 {w : World} {b off : Nat} {x : Sl} (h : SlIn w b off x) : w.cell? ⟨b, off, none⟩ = some (Value.int .i64 x.mode) ∧ w.cell? ⟨b, off + 1, none⟩ = some (Value.int .i64 x.round) ∧ w.cell? ⟨b, off + 2, none⟩ = some (Value.int .i64 x.slot) ∧ w.cell? ⟨b, off + 3, none⟩ = some (Value.int .i64 x.desc.node) ∧ w.cell? ⟨b, off + 4, none⟩ = some (Value.int .i64 x.desc.kind) ∧ w.cell? ⟨b, off + 5, none⟩ = some (Value.int .i64 x.desc.size) ∧ w.cell? ⟨b, off + 6, none⟩ = some (Value.int .i64 x.desc.dur) ∧ w.cell? ⟨b, off + 7, none⟩ = some (Value.bool x.desc.chg) := ⟨h.c0, h.c1, h.c2, h.c3, h.c4, h.c5, h.c6, h.c7⟩
theorem SlBk.all8 {w : World} {T b : Nat} {x : Sl} (h : SlBk T w b x) : w.cell? ⟨b, 0, none⟩ = some (Value.int .i64 x.mode) ∧ w.cell? ⟨b, 1, none⟩ = some (Value.int .i64 x.round) ∧ w.cell? ⟨b, 2, none⟩ = some (Value.int .i64 x.slot) ∧ w.cell? ⟨b, 3, none⟩ = some (Value.int .i64 x.desc.node) ∧ w.cell? ⟨b, 4, none⟩ = some (Value.int .i64 x.desc.kind) ∧ w.cell? ⟨b, 5, none⟩ = some (Value.int .i64 x.desc.size) ∧ w.cell? ⟨b, 6, none⟩ = some (Value.int .i64 x.desc.dur) ∧ w.cell? ⟨b, 7, none⟩ = some (Value.bool x.desc.chg) := by
  have := h.in_.all8
  simpa only [Nat.zero_add] using this
theorem okS_next {t : List Sl} {k : Nat} (h : ∀ i, i < k → stepSl t i = true) (hk : stepSl t k = true) : ∀ i, i < k + 1 → stepSl t i = true := fun i hi => by
  rcases Nat.lt_or_ge i k with hl | hl
  · exact h i hl
  · rw [show i = k from by omega]; exact hk
set_option maxRecDepth 100000 in
set_option maxHeartbeats 4000000 in
set_option linter.unusedSimpArgs false in
theorem isSlsI_any (ao : Option Addr) (n cap : Nat) (t : List Sl) (w : World) (hr : RdE w ao n t) (hn : n ≤ 1048576) :
    Calls Tryz.prog 102 #[.slice ao n cap] w fun e w' => e = .returned (.bool (isSls t)) ∧ Below w.heap.size w w' := by
  have hl := hr.len
  by_cases h120 : 120 < n
  · have HF := Lib.hid (show isSls t = false from by unfold isSls; rw [decide_eq_false (show ¬ t.length ≤ 120 by omega)]; rfl)
    clear hr hl
    have hg : (120 : Int) < (n : Int) := by omega
    go_enter Tryz.func102, Tryz.ntmps102
    go_wp2
    go_ret
    rw [HF.out]
    exact ⟨rfl, Below.refl _ _⟩
  have hg : ¬ (120 : Int) < (n : Int) := by omega
  have HL := Lib.hid hl
  have HR := Lib.hid hr
  have HN := Lib.hid (show n ≤ 120 by omega)
  clear hl hr h120
  go_enter Tryz.func102, Tryz.ntmps102
  go_wp2_with fail
  clear hg
  go_loopw [10] (fun i wr => ∃ k : Nat, k ≤ n ∧ i = .int .i64 k ∧ Hid (Below w.heap.size w wr) ∧ Hid (∀ i, i < k → stepSl t i = true)) (fun i _ => n - (intOf i).toNat)
  case atStart => exact ⟨0, Nat.zero_le _, rfl, Below.refl _ _, fun i h => absurd h (by omega)⟩
  case round =>
    obtain ⟨k, hk, rfl, hb, hall⟩ := hrel
    by_cases hlt : k < n
    · obtain ⟨b, off, e0, hg, hx⟩ := HR.out.at hlt
      subst e0
      replace hx := Lib.hid (hx.below hb.out hg)
      have HNO := Lib.hid (fun h => sls_no (t := t) (k := k) (by rw [HL.out]; exact hlt) h)
      have HYES := Lib.hid (fun h => okS_next (t := t) (k := k) hall.out h)
      have HST := Lib.hid (show stepSl t k = (isSl (slOf t k) && (decide (k = 0) || decide (cmpSl (slOf t (k - 1)) (slOf t k) < 0))) from rfl)
      have HPV := Lib.hid (fun j (hj : k = j + 1) => (by
        obtain ⟨b', off', e, hc⟩ := HR.out.here (by omega)
        cases e
        exact (hc j (by omega)).below hb.out (hc j (by omega)).lt : SlIn wr b (off + j * 8) (slOf t j)))
      obtain ⟨x, hxe⟩ : ∃ x, x = slOf t k := ⟨_, rfl⟩
      rw [← hxe] at hx HST
      clear hxe hall
      have HI := Lib.hid (fun W => isSlI_any x W)
      unfold slVal at HI
      obtain ⟨q0, q1, q2, q3, q4, q5, q6, q7⟩ := hx.out.all8
      go_upto_region 6 with fail
      clear q0 q1 q2 q3 q4 q5 q6 q7
      obtain ⟨J, hJ⟩ : ∃ J, J = wr.heap.size := ⟨_, rfl⟩
      have HB1 := Lib.hid (hb.out.alloc hb.out.size (.cells #[.int .i64 x.mode, .int .i64 x.round, .int .i64 x.slot, .int .i64 x.desc.node, .int .i64 x.desc.kind, .int .i64 x.desc.size, .int .i64 x.desc.dur, .bool x.desc.chg] 74))
      have HX1 := Lib.hid (show SlBk 74 (wr.alloc (.cells #[.int .i64 x.mode, .int .i64 x.round, .int .i64 x.slot, .int .i64 x.desc.node, .int .i64 x.desc.kind, .int .i64 x.desc.size, .int .i64 x.desc.dur, .bool x.desc.chg] 74)) J x from by rw [hJ]; exact SlBk.new wr)
      have HP1 := Lib.hid (fun j (hj : k = j + 1) => (HPV.out j hj).below ((Below.refl _ _).alloc (Nat.le_refl _) (.cells #[.int .i64 x.mode, .int .i64 x.round, .int .i64 x.slot, .int .i64 x.desc.node, .int .i64 x.desc.kind, .int .i64 x.desc.size, .int .i64 x.desc.dur, .bool x.desc.chg] 74)) (HPV.out j hj).lt)
      rw [← hJ]
      clear hJ hb hx HPV
      generalize wr.alloc (.cells #[.int .i64 x.mode, .int .i64 x.round, .int .i64 x.slot, .int .i64 x.desc.node, .int .i64 x.desc.kind, .int .i64 x.desc.size, .int .i64 x.desc.dur, .bool x.desc.chg] 74) = w1 at HB1 HX1 HP1 ⊢
      have HXW := Lib.hid (fun W (hW : Below w1.heap.size w1 W) => (HX1.out.below (B := w1.heap.size) hW HX1.out.lt).all8)
      have HD := Lib.hid (show Below w1.heap.size w1 w1.drew from Below.drew (Below.refl _ _))
      rcases hv : isSl x with _ | _
      · have HF := Lib.hid (HNO.out (by rw [HST.out, hv]; rfl))
        refine wp_region_held_drew (S := fun w' => w'.cell? ⟨J, 0, none⟩ = some (Value.int .i64 x.mode) ∧ w'.cell? ⟨J, 1, none⟩ = some (Value.int .i64 x.round) ∧ w'.cell? ⟨J, 2, none⟩ = some (Value.int .i64 x.slot) ∧ w'.cell? ⟨J, 3, none⟩ = some (Value.int .i64 x.desc.node) ∧ w'.cell? ⟨J, 4, none⟩ = some (Value.int .i64 x.desc.kind) ∧ w'.cell? ⟨J, 5, none⟩ = some (Value.int .i64 x.desc.size) ∧ w'.cell? ⟨J, 6, none⟩ = some (Value.int .i64 x.desc.dur) ∧ w'.cell? ⟨J, 7, none⟩ = some (Value.bool x.desc.chg)) (by kernel_rfl) (HXW.out _ HD.out) (fun hHeld => ?_)
        generalize w1.drew = w2 at HD hHeld ⊢
        refine wpAnyH_take (i := 0) (v := ?_) rfl (by kernel_rfl) (by kernel_rfl) (by kernel_rfl) (fun _ _ _ h => h) (Or.inl ⟨by rfl, ?_⟩) (by assumption) ?_
        rotate_left
        · (intro w hSw; (try dsimp only at hSw); go_simp; (try with_reducible rfl))
        try simp only [List.getElem_toArray, List.getElem_cons_succ, List.getElem_cons_zero, Act.put, List.setIfInBounds_toArray, List.set_cons_zero, List.set_cons_succ]
        refine wpAnyH_ready (rs := [1]) (by kernel_rfl) (by simp) (AllReadyH.cons rfl (fun K hK => ?_) AllReadyH.nil)
        go_simp
        refine (HI.out _).mono ?_
        rintro e w3 ⟨rfl, b3⟩
        rw [hv]
        have HD3 := Lib.hid (below_two HD.out b3); clear b3
        go_wp2_with fail
        refine hK.out _ _ ?_ (fun hHeld => ?_)
        · exact HXW.out _ HD3.out
        clear hK K
        try simp only [List.getElem_toArray, List.getElem_cons_succ, List.getElem_cons_zero, Act.put, List.setIfInBounds_toArray, List.set_cons_zero, List.set_cons_succ]
        refine wpAnyH_take (i := 2) (v := ?_) rfl (by kernel_rfl) (by kernel_rfl) (by kernel_rfl) (fun _ _ _ h => h) (Or.inl ⟨by rfl, ?_⟩) (by assumption) ?_
        rotate_left
        · (intro w hSw; (try dsimp only at hSw); go_simp; (try with_reducible rfl))
        try simp only [List.getElem_toArray, List.getElem_cons_succ, List.getElem_cons_zero, Act.put, List.setIfInBounds_toArray, List.set_cons_zero, List.set_cons_succ]
        refine wpAnyH_take (i := 3) (v := ?_) rfl (by kernel_rfl) (by kernel_rfl) (by kernel_rfl) (fun _ _ _ h => h) (Or.inl ⟨by rfl, ?_⟩) (by assumption) ?_
        rotate_left
        · (intro w hSw; (try dsimp only at hSw); go_simp; (try with_reducible rfl))
        try simp only [List.getElem_toArray, List.getElem_cons_succ, List.getElem_cons_zero, Act.put, List.setIfInBounds_toArray, List.set_cons_zero, List.set_cons_succ]
        refine wpAnyH_take (i := 4) (v := undef) rfl (by kernel_rfl) (by kernel_rfl) (by kernel_rfl) (fun _ _ _ h => h) (Or.inr ⟨by rfl, rfl⟩) (by assumption) ?_
        try simp only [List.getElem_toArray, List.getElem_cons_succ, List.getElem_cons_zero, Act.put, List.setIfInBounds_toArray, List.set_cons_zero, List.set_cons_succ]
        refine wpAnyH_take (i := 5) (v := undef) rfl (by kernel_rfl) (by kernel_rfl) (by kernel_rfl) (fun _ _ _ h => h) (Or.inr ⟨by rfl, rfl⟩) (by assumption) ?_
        try simp only [List.getElem_toArray, List.getElem_cons_succ, List.getElem_cons_zero, Act.put, List.setIfInBounds_toArray, List.set_cons_zero, List.set_cons_succ]
        refine wpAnyH_take (i := 6) (v := undef) rfl (by kernel_rfl) (by kernel_rfl) (by kernel_rfl) (fun _ _ _ h => h) (Or.inr ⟨by rfl, rfl⟩) (by assumption) ?_
        try simp only [List.getElem_toArray, List.getElem_cons_succ, List.getElem_cons_zero, Act.put, List.setIfInBounds_toArray, List.set_cons_zero, List.set_cons_succ]
        refine wpAnyH_take (i := 7) (v := undef) rfl (by kernel_rfl) (by kernel_rfl) (by kernel_rfl) (fun _ _ _ h => h) (Or.inr ⟨by rfl, rfl⟩) (by assumption) ?_
        try simp only [List.getElem_toArray, List.getElem_cons_succ, List.getElem_cons_zero, Act.put, List.setIfInBounds_toArray, List.set_cons_zero, List.set_cons_succ]
        refine wpAnyH_take (i := 8) (v := undef) rfl (by kernel_rfl) (by kernel_rfl) (by kernel_rfl) (fun _ _ _ h => h) (Or.inr ⟨by rfl, rfl⟩) (by assumption) ?_
        try simp only [List.getElem_toArray, List.getElem_cons_succ, List.getElem_cons_zero, Act.put, List.setIfInBounds_toArray, List.set_cons_zero, List.set_cons_succ]
        refine wpAnyH_take (i := 9) (v := undef) rfl (by kernel_rfl) (by kernel_rfl) (by kernel_rfl) (fun _ _ _ h => h) (Or.inr ⟨by rfl, rfl⟩) (by assumption) ?_
        try simp only [List.getElem_toArray, List.getElem_cons_succ, List.getElem_cons_zero, Act.put, List.setIfInBounds_toArray, List.set_cons_zero, List.set_cons_succ]
        refine wpAnyH_take (i := 10) (v := undef) rfl (by kernel_rfl) (by kernel_rfl) (by kernel_rfl) (fun _ _ _ h => h) (Or.inr ⟨by rfl, rfl⟩) (by assumption) ?_
        try simp only [List.getElem_toArray, List.getElem_cons_succ, List.getElem_cons_zero, Act.put, List.setIfInBounds_toArray, List.set_cons_zero, List.set_cons_succ]
        refine wpAnyH_take (i := 11) (v := undef) rfl (by kernel_rfl) (by kernel_rfl) (by kernel_rfl) (fun _ _ _ h => h) (Or.inr ⟨by rfl, rfl⟩) (by assumption) ?_
        try simp only [List.getElem_toArray, List.getElem_cons_succ, List.getElem_cons_zero, Act.put, List.setIfInBounds_toArray, List.set_cons_zero, List.set_cons_succ]
        refine wpAnyH_take (i := 12) (v := undef) rfl (by kernel_rfl) (by kernel_rfl) (by kernel_rfl) (fun _ _ _ h => h) (Or.inr ⟨by rfl, rfl⟩) (by assumption) ?_
        try simp only [List.getElem_toArray, List.getElem_cons_succ, List.getElem_cons_zero, Act.put, List.setIfInBounds_toArray, List.set_cons_zero, List.set_cons_succ]
        refine wpAnyH_take (i := 13) (v := undef) rfl (by kernel_rfl) (by kernel_rfl) (by kernel_rfl) (fun _ _ _ h => h) (Or.inr ⟨by rfl, rfl⟩) (by assumption) ?_
        try simp only [List.getElem_toArray, List.getElem_cons_succ, List.getElem_cons_zero, Act.put, List.setIfInBounds_toArray, List.set_cons_zero, List.set_cons_succ]
        refine wpAnyH_take (i := 14) (v := undef) rfl (by kernel_rfl) (by kernel_rfl) (by kernel_rfl) (fun _ _ _ h => h) (Or.inr ⟨by rfl, rfl⟩) (by assumption) ?_
        try simp only [List.getElem_toArray, List.getElem_cons_succ, List.getElem_cons_zero, Act.put, List.setIfInBounds_toArray, List.set_cons_zero, List.set_cons_succ]
        refine wpAnyH_take (i := 15) (v := undef) rfl (by kernel_rfl) (by kernel_rfl) (by kernel_rfl) (fun _ _ _ h => h) (Or.inr ⟨by rfl, rfl⟩) (by assumption) ?_
        try simp only [List.getElem_toArray, List.getElem_cons_succ, List.getElem_cons_zero, Act.put, List.setIfInBounds_toArray, List.set_cons_zero, List.set_cons_succ]
        refine wpAnyH_take (i := 16) (v := ?_) rfl (by kernel_rfl) (by kernel_rfl) (by kernel_rfl) (fun _ _ _ h => h) (Or.inl ⟨by rfl, ?_⟩) (by assumption) ?_
        rotate_left
        · (intro w hSw; (try dsimp only at hSw); go_simp; (try with_reducible rfl))
        try simp only [List.getElem_toArray, List.getElem_cons_succ, List.getElem_cons_zero, Act.put, List.setIfInBounds_toArray, List.set_cons_zero, List.set_cons_succ]
        refine wpAnyH_done (by kernel_rfl) ?_ _
        have HBE := Lib.hid (below_two HB1.out HD3.out)
        go_wp2_with fail
        go_ret
        rw [HF.out]
        exact ⟨rfl, HBE.out⟩
      · rcases Nat.eq_zero_or_pos k with h0 | h0
        · have HF := Lib.hid (HYES.out (by rw [HST.out, hv, decide_eq_true h0]; rfl))
          subst h0
          have HXW0 := HXW
          refine wp_region_held_drew (S := fun w' => w'.cell? ⟨J, 0, none⟩ = some (Value.int .i64 x.mode) ∧ w'.cell? ⟨J, 1, none⟩ = some (Value.int .i64 x.round) ∧ w'.cell? ⟨J, 2, none⟩ = some (Value.int .i64 x.slot) ∧ w'.cell? ⟨J, 3, none⟩ = some (Value.int .i64 x.desc.node) ∧ w'.cell? ⟨J, 4, none⟩ = some (Value.int .i64 x.desc.kind) ∧ w'.cell? ⟨J, 5, none⟩ = some (Value.int .i64 x.desc.size) ∧ w'.cell? ⟨J, 6, none⟩ = some (Value.int .i64 x.desc.dur) ∧ w'.cell? ⟨J, 7, none⟩ = some (Value.bool x.desc.chg)) (by kernel_rfl) (HXW0.out _ HD.out) (fun hHeld => ?_)
          generalize w1.drew = w2 at HD hHeld ⊢
          refine wpAnyH_take (i := 0) (v := ?_) rfl (by kernel_rfl) (by kernel_rfl) (by kernel_rfl) (fun _ _ _ h => h) (Or.inl ⟨by rfl, ?_⟩) (by assumption) ?_
          rotate_left
          · (intro w hSw; (try dsimp only at hSw); go_simp; (try with_reducible rfl))
          try simp only [List.getElem_toArray, List.getElem_cons_succ, List.getElem_cons_zero, Act.put, List.setIfInBounds_toArray, List.set_cons_zero, List.set_cons_succ]
          refine wpAnyH_ready (rs := [1]) (by kernel_rfl) (by simp) (AllReadyH.cons rfl (fun K hK => ?_) AllReadyH.nil)
          go_simp
          refine (HI.out _).mono ?_
          rintro e w3 ⟨rfl, b3⟩
          rw [hv]
          have HD3 := Lib.hid (below_two HD.out b3); clear b3
          go_wp2_with fail
          refine hK.out _ _ ?_ (fun hHeld => ?_)
          · exact HXW0.out _ HD3.out
          clear hK K
          try simp only [List.getElem_toArray, List.getElem_cons_succ, List.getElem_cons_zero, Act.put, List.setIfInBounds_toArray, List.set_cons_zero, List.set_cons_succ]
          refine wpAnyH_take (i := 2) (v := ?_) rfl (by kernel_rfl) (by kernel_rfl) (by kernel_rfl) (fun _ _ _ h => h) (Or.inl ⟨by rfl, ?_⟩) (by assumption) ?_
          rotate_left
          · (intro w hSw; (try dsimp only at hSw); go_simp; (try with_reducible rfl))
          try simp only [List.getElem_toArray, List.getElem_cons_succ, List.getElem_cons_zero, Act.put, List.setIfInBounds_toArray, List.set_cons_zero, List.set_cons_succ]
          refine wpAnyH_take (i := 3) (v := ?_) rfl (by kernel_rfl) (by kernel_rfl) (by kernel_rfl) (fun _ _ _ h => h) (Or.inl ⟨by rfl, ?_⟩) (by assumption) ?_
          rotate_left
          · (intro w hSw; (try dsimp only at hSw); go_simp; (try with_reducible rfl))
          try simp only [List.getElem_toArray, List.getElem_cons_succ, List.getElem_cons_zero, Act.put, List.setIfInBounds_toArray, List.set_cons_zero, List.set_cons_succ]
          refine wpAnyH_take (i := 4) (v := ?_) rfl (by kernel_rfl) (by kernel_rfl) (by kernel_rfl) (fun _ _ _ h => h) (Or.inl ⟨by rfl, ?_⟩) (by assumption) ?_
          rotate_left
          · (intro w hSw; (try dsimp only at hSw); go_simp; (try with_reducible rfl))
          try simp only [List.getElem_toArray, List.getElem_cons_succ, List.getElem_cons_zero, Act.put, List.setIfInBounds_toArray, List.set_cons_zero, List.set_cons_succ]
          refine wpAnyH_take (i := 5) (v := ?_) rfl (by kernel_rfl) (by kernel_rfl) (by kernel_rfl) (fun _ _ _ h => h) (Or.inl ⟨by rfl, ?_⟩) (by assumption) ?_
          rotate_left
          · (intro w hSw; (try dsimp only at hSw); go_simp; (try with_reducible rfl))
          try simp only [List.getElem_toArray, List.getElem_cons_succ, List.getElem_cons_zero, Act.put, List.setIfInBounds_toArray, List.set_cons_zero, List.set_cons_succ]
          refine wpAnyH_take (i := 6) (v := ?_) rfl (by kernel_rfl) (by kernel_rfl) (by kernel_rfl) (fun _ _ _ h => h) (Or.inl ⟨by rfl, ?_⟩) (by assumption) ?_
          rotate_left
          · (intro w hSw; (try dsimp only at hSw); go_simp; (try with_reducible rfl))
          try simp only [List.getElem_toArray, List.getElem_cons_succ, List.getElem_cons_zero, Act.put, List.setIfInBounds_toArray, List.set_cons_zero, List.set_cons_succ]
          refine wpAnyH_take (i := 7) (v := undef) rfl (by kernel_rfl) (by kernel_rfl) (by kernel_rfl) (fun _ _ _ h => h) (Or.inr ⟨by rfl, rfl⟩) (by assumption) ?_
          try simp only [List.getElem_toArray, List.getElem_cons_succ, List.getElem_cons_zero, Act.put, List.setIfInBounds_toArray, List.set_cons_zero, List.set_cons_succ]
          refine wpAnyH_take (i := 8) (v := undef) rfl (by kernel_rfl) (by kernel_rfl) (by kernel_rfl) (fun _ _ _ h => h) (Or.inr ⟨by rfl, rfl⟩) (by assumption) ?_
          try simp only [List.getElem_toArray, List.getElem_cons_succ, List.getElem_cons_zero, Act.put, List.setIfInBounds_toArray, List.set_cons_zero, List.set_cons_succ]
          refine wpAnyH_take (i := 9) (v := undef) rfl (by kernel_rfl) (by kernel_rfl) (by kernel_rfl) (fun _ _ _ h => h) (Or.inr ⟨by rfl, rfl⟩) (by assumption) ?_
          try simp only [List.getElem_toArray, List.getElem_cons_succ, List.getElem_cons_zero, Act.put, List.setIfInBounds_toArray, List.set_cons_zero, List.set_cons_succ]
          refine wpAnyH_take (i := 10) (v := undef) rfl (by kernel_rfl) (by kernel_rfl) (by kernel_rfl) (fun _ _ _ h => h) (Or.inr ⟨by rfl, rfl⟩) (by assumption) ?_
          try simp only [List.getElem_toArray, List.getElem_cons_succ, List.getElem_cons_zero, Act.put, List.setIfInBounds_toArray, List.set_cons_zero, List.set_cons_succ]
          refine wpAnyH_take (i := 11) (v := undef) rfl (by kernel_rfl) (by kernel_rfl) (by kernel_rfl) (fun _ _ _ h => h) (Or.inr ⟨by rfl, rfl⟩) (by assumption) ?_
          try simp only [List.getElem_toArray, List.getElem_cons_succ, List.getElem_cons_zero, Act.put, List.setIfInBounds_toArray, List.set_cons_zero, List.set_cons_succ]
          refine wpAnyH_take (i := 12) (v := undef) rfl (by kernel_rfl) (by kernel_rfl) (by kernel_rfl) (fun _ _ _ h => h) (Or.inr ⟨by rfl, rfl⟩) (by assumption) ?_
          try simp only [List.getElem_toArray, List.getElem_cons_succ, List.getElem_cons_zero, Act.put, List.setIfInBounds_toArray, List.set_cons_zero, List.set_cons_succ]
          refine wpAnyH_take (i := 13) (v := undef) rfl (by kernel_rfl) (by kernel_rfl) (by kernel_rfl) (fun _ _ _ h => h) (Or.inr ⟨by rfl, rfl⟩) (by assumption) ?_
          try simp only [List.getElem_toArray, List.getElem_cons_succ, List.getElem_cons_zero, Act.put, List.setIfInBounds_toArray, List.set_cons_zero, List.set_cons_succ]
          refine wpAnyH_take (i := 14) (v := undef) rfl (by kernel_rfl) (by kernel_rfl) (by kernel_rfl) (fun _ _ _ h => h) (Or.inr ⟨by rfl, rfl⟩) (by assumption) ?_
          try simp only [List.getElem_toArray, List.getElem_cons_succ, List.getElem_cons_zero, Act.put, List.setIfInBounds_toArray, List.set_cons_zero, List.set_cons_succ]
          refine wpAnyH_take (i := 15) (v := ?_) rfl (by kernel_rfl) (by kernel_rfl) (by kernel_rfl) (fun _ _ _ h => h) (Or.inl ⟨by rfl, ?_⟩) (by assumption) ?_
          rotate_left
          · (intro w hSw; (try dsimp only at hSw); go_simp; (try with_reducible rfl))
          try simp only [List.getElem_toArray, List.getElem_cons_succ, List.getElem_cons_zero, Act.put, List.setIfInBounds_toArray, List.set_cons_zero, List.set_cons_succ]
          refine wpAnyH_take (i := 16) (v := ?_) rfl (by kernel_rfl) (by kernel_rfl) (by kernel_rfl) (fun _ _ _ h => h) (Or.inl ⟨by rfl, ?_⟩) (by assumption) ?_
          rotate_left
          · (intro w hSw; (try dsimp only at hSw); go_simp; (try with_reducible rfl))
          try simp only [List.getElem_toArray, List.getElem_cons_succ, List.getElem_cons_zero, Act.put, List.setIfInBounds_toArray, List.set_cons_zero, List.set_cons_succ]
          refine wpAnyH_done (by kernel_rfl) ?_ _
          have HBE := Lib.hid (below_two HB1.out HD3.out)
          go_wp2_with fail
          go_roundw
          case rel => exact ⟨0 + 1, by omega, by go_num, HBE, HF⟩
          case measure => simp [intOf]; omega
        · obtain ⟨j, rfl⟩ : ∃ j, k = j + 1 := ⟨k - 1, by omega⟩
          have HPY := Lib.hid (HP1.out j rfl)
          have HST2 := Lib.hid (show stepSl t (j + 1) = decide (cmpSl (slOf t j) x < 0) from by rw [HST.out, hv, Nat.add_sub_cancel]; simp)
          obtain ⟨y, hye⟩ : ∃ y, y = slOf t j := ⟨_, rfl⟩
          rw [← hye] at HPY HST2
          have HCMP := Lib.hid (fun W => cmpSlI_any y x W)
          unfold slVal at HCMP
          clear hye HST HP1
          have HYW := Lib.hid (fun W (hW : Below w1.heap.size w1 W) => (HPY.out.below hW HPY.out.lt).all8)
          have hwj : IntKind.i64.wrap (j : Int) = (j : Int) := by rw [IntKind.wrap_i64]; omega
          have hj0 : (0 : Int) ≤ (j : Int) := by omega
          have hjn : (j : Int) < (n : Int) := by omega
          obtain ⟨z, hz⟩ : ∃ z, z = cmpSl y x := ⟨_, rfl⟩
          rw [← hz] at HCMP HST2
          clear hz
          by_cases hz : z < 0
          · have HF := Lib.hid (HYES.out (by rw [HST2.out, decide_eq_true hz]))
            have hzz : ¬ z ≥ 0 := by omega
            refine wp_region_held_drew (S := fun w' => (w'.cell? ⟨J, 0, none⟩ = some (Value.int .i64 x.mode) ∧ w'.cell? ⟨J, 1, none⟩ = some (Value.int .i64 x.round) ∧ w'.cell? ⟨J, 2, none⟩ = some (Value.int .i64 x.slot) ∧ w'.cell? ⟨J, 3, none⟩ = some (Value.int .i64 x.desc.node) ∧ w'.cell? ⟨J, 4, none⟩ = some (Value.int .i64 x.desc.kind) ∧ w'.cell? ⟨J, 5, none⟩ = some (Value.int .i64 x.desc.size) ∧ w'.cell? ⟨J, 6, none⟩ = some (Value.int .i64 x.desc.dur) ∧ w'.cell? ⟨J, 7, none⟩ = some (Value.bool x.desc.chg)) ∧ (w'.cell? ⟨b, off + j * 8, none⟩ = some (Value.int .i64 y.mode) ∧ w'.cell? ⟨b, off + j * 8 + 1, none⟩ = some (Value.int .i64 y.round) ∧ w'.cell? ⟨b, off + j * 8 + 2, none⟩ = some (Value.int .i64 y.slot) ∧ w'.cell? ⟨b, off + j * 8 + 3, none⟩ = some (Value.int .i64 y.desc.node) ∧ w'.cell? ⟨b, off + j * 8 + 4, none⟩ = some (Value.int .i64 y.desc.kind) ∧ w'.cell? ⟨b, off + j * 8 + 5, none⟩ = some (Value.int .i64 y.desc.size) ∧ w'.cell? ⟨b, off + j * 8 + 6, none⟩ = some (Value.int .i64 y.desc.dur) ∧ w'.cell? ⟨b, off + j * 8 + 7, none⟩ = some (Value.bool y.desc.chg))) (by kernel_rfl) (⟨HXW.out _ HD.out, HYW.out _ HD.out⟩) (fun hHeld => ?_)
            generalize w1.drew = w2 at HD hHeld ⊢
            refine wpAnyH_take (i := 0) (v := ?_) rfl (by kernel_rfl) (by kernel_rfl) (by kernel_rfl) (fun _ _ _ h => h) (Or.inl ⟨by rfl, ?_⟩) (by assumption) ?_
            rotate_left
            · (intro w hSw; (try dsimp only at hSw); go_simp; (try with_reducible rfl))
            try simp only [List.getElem_toArray, List.getElem_cons_succ, List.getElem_cons_zero, Act.put, List.setIfInBounds_toArray, List.set_cons_zero, List.set_cons_succ]
            refine wpAnyH_ready (rs := [1]) (by kernel_rfl) (by simp) (AllReadyH.cons rfl (fun K hK => ?_) AllReadyH.nil)
            go_simp
            refine (HI.out _).mono ?_
            rintro e w3 ⟨rfl, b3⟩
            rw [hv]
            have HD3 := Lib.hid (below_two HD.out b3); clear b3
            go_wp2_with fail
            refine hK.out _ _ ?_ (fun hHeld => ?_)
            · exact ⟨HXW.out _ HD3.out, HYW.out _ HD3.out⟩
            clear hK K
            try simp only [List.getElem_toArray, List.getElem_cons_succ, List.getElem_cons_zero, Act.put, List.setIfInBounds_toArray, List.set_cons_zero, List.set_cons_succ]
            refine wpAnyH_take (i := 2) (v := ?_) rfl (by kernel_rfl) (by kernel_rfl) (by kernel_rfl) (fun _ _ _ h => h) (Or.inl ⟨by rfl, ?_⟩) (by assumption) ?_
            rotate_left
            · (intro w hSw; (try dsimp only at hSw); go_simp; (try with_reducible rfl))
            try simp only [List.getElem_toArray, List.getElem_cons_succ, List.getElem_cons_zero, Act.put, List.setIfInBounds_toArray, List.set_cons_zero, List.set_cons_succ]
            refine wpAnyH_take (i := 3) (v := ?_) rfl (by kernel_rfl) (by kernel_rfl) (by kernel_rfl) (fun _ _ _ h => h) (Or.inl ⟨by rfl, ?_⟩) (by assumption) ?_
            rotate_left
            · (intro w hSw; (try dsimp only at hSw); go_simp; (try with_reducible rfl))
            try simp only [List.getElem_toArray, List.getElem_cons_succ, List.getElem_cons_zero, Act.put, List.setIfInBounds_toArray, List.set_cons_zero, List.set_cons_succ]
            refine wpAnyH_take (i := 4) (v := ?_) rfl (by kernel_rfl) (by kernel_rfl) (by kernel_rfl) (fun _ _ _ h => h) (Or.inl ⟨by rfl, ?_⟩) (by assumption) ?_
            rotate_left
            · (intro w hSw; (try dsimp only at hSw); go_simp; (try with_reducible rfl))
            try simp only [List.getElem_toArray, List.getElem_cons_succ, List.getElem_cons_zero, Act.put, List.setIfInBounds_toArray, List.set_cons_zero, List.set_cons_succ]
            refine wpAnyH_take (i := 5) (v := ?_) rfl (by kernel_rfl) (by kernel_rfl) (by kernel_rfl) (fun _ _ _ h => h) (Or.inl ⟨by rfl, ?_⟩) (by assumption) ?_
            rotate_left
            · (intro w hSw; (try dsimp only at hSw); go_simp; (try with_reducible rfl))
            try simp only [List.getElem_toArray, List.getElem_cons_succ, List.getElem_cons_zero, Act.put, List.setIfInBounds_toArray, List.set_cons_zero, List.set_cons_succ]
            refine wpAnyH_take (i := 6) (v := ?_) rfl (by kernel_rfl) (by kernel_rfl) (by kernel_rfl) (fun _ _ _ h => h) (Or.inl ⟨by rfl, ?_⟩) (by assumption) ?_
            rotate_left
            · (intro w hSw; (try dsimp only at hSw); go_simp; (try with_reducible rfl))
            try simp only [List.getElem_toArray, List.getElem_cons_succ, List.getElem_cons_zero, Act.put, List.setIfInBounds_toArray, List.set_cons_zero, List.set_cons_succ]
            refine wpAnyH_take (i := 7) (v := ?_) rfl (by kernel_rfl) (by kernel_rfl) (by kernel_rfl) (fun _ _ _ h => h) (Or.inl ⟨by rfl, ?_⟩) (by assumption) ?_
            rotate_left
            · (intro w hSw; (try dsimp only at hSw); go_simp; (try with_reducible rfl))
            try simp only [List.getElem_toArray, List.getElem_cons_succ, List.getElem_cons_zero, Act.put, List.setIfInBounds_toArray, List.set_cons_zero, List.set_cons_succ]
            refine wpAnyH_take (i := 8) (v := ?_) rfl (by kernel_rfl) (by kernel_rfl) (by kernel_rfl) (fun _ _ _ h => h) (Or.inl ⟨by rfl, ?_⟩) (by assumption) ?_
            rotate_left
            · (intro w hSw; (try dsimp only at hSw); go_simp; (try with_reducible rfl))
            try simp only [List.getElem_toArray, List.getElem_cons_succ, List.getElem_cons_zero, Act.put, List.setIfInBounds_toArray, List.set_cons_zero, List.set_cons_succ]
            refine wpAnyH_take (i := 9) (v := ?_) rfl (by kernel_rfl) (by kernel_rfl) (by kernel_rfl) (fun _ _ _ h => h) (Or.inl ⟨by rfl, ?_⟩) (by assumption) ?_
            rotate_left
            · (intro w hSw; (try dsimp only at hSw); go_simp; (try with_reducible rfl))
            try simp only [List.getElem_toArray, List.getElem_cons_succ, List.getElem_cons_zero, Act.put, List.setIfInBounds_toArray, List.set_cons_zero, List.set_cons_succ]
            refine wpAnyH_take (i := 10) (v := ?_) rfl (by kernel_rfl) (by kernel_rfl) (by kernel_rfl) (fun _ _ _ h => h) (Or.inl ⟨by rfl, ?_⟩) (by assumption) ?_
            rotate_left
            · (intro w hSw; (try dsimp only at hSw); go_simp; (try with_reducible rfl))
            try simp only [List.getElem_toArray, List.getElem_cons_succ, List.getElem_cons_zero, Act.put, List.setIfInBounds_toArray, List.set_cons_zero, List.set_cons_succ]
            refine wpAnyH_take (i := 11) (v := ?_) rfl (by kernel_rfl) (by kernel_rfl) (by kernel_rfl) (fun _ _ _ h => h) (Or.inl ⟨by rfl, ?_⟩) (by assumption) ?_
            rotate_left
            · (intro w hSw; (try dsimp only at hSw); go_simp; (try with_reducible rfl))
            try simp only [List.getElem_toArray, List.getElem_cons_succ, List.getElem_cons_zero, Act.put, List.setIfInBounds_toArray, List.set_cons_zero, List.set_cons_succ]
            refine wpAnyH_take (i := 12) (v := ?_) rfl (by kernel_rfl) (by kernel_rfl) (by kernel_rfl) (fun _ _ _ h => h) (Or.inl ⟨by rfl, ?_⟩) (by assumption) ?_
            rotate_left
            · (intro w hSw; (try dsimp only at hSw); go_simp; (try with_reducible rfl))
            try simp only [List.getElem_toArray, List.getElem_cons_succ, List.getElem_cons_zero, Act.put, List.setIfInBounds_toArray, List.set_cons_zero, List.set_cons_succ]
            refine wpAnyH_ready (rs := [13]) (by kernel_rfl) (by simp) (AllReadyH.cons rfl (fun K hK => ?_) AllReadyH.nil)
            go_simp
            refine (HCMP.out _).mono ?_
            rintro e w4 ⟨rfl, b4⟩
            have HD4 := Lib.hid (below_two HD3.out b4); clear b4
            go_wp2_with fail
            refine hK.out _ _ ?_ (fun hHeld => ?_)
            · exact ⟨HXW.out _ HD4.out, HYW.out _ HD4.out⟩
            clear hK K
            try simp only [List.getElem_toArray, List.getElem_cons_succ, List.getElem_cons_zero, Act.put, List.setIfInBounds_toArray, List.set_cons_zero, List.set_cons_succ]
            refine wpAnyH_take (i := 14) (v := ?_) rfl (by kernel_rfl) (by kernel_rfl) (by kernel_rfl) (fun _ _ _ h => h) (Or.inl ⟨by rfl, ?_⟩) (by assumption) ?_
            rotate_left
            · (intro w hSw; (try dsimp only at hSw); go_simp; (try with_reducible rfl))
            try simp only [List.getElem_toArray, List.getElem_cons_succ, List.getElem_cons_zero, Act.put, List.setIfInBounds_toArray, List.set_cons_zero, List.set_cons_succ]
            refine wpAnyH_take (i := 15) (v := ?_) rfl (by kernel_rfl) (by kernel_rfl) (by kernel_rfl) (fun _ _ _ h => h) (Or.inl ⟨by rfl, ?_⟩) (by assumption) ?_
            rotate_left
            · (intro w hSw; (try dsimp only at hSw); go_simp; (try with_reducible rfl))
            try simp only [List.getElem_toArray, List.getElem_cons_succ, List.getElem_cons_zero, Act.put, List.setIfInBounds_toArray, List.set_cons_zero, List.set_cons_succ]
            refine wpAnyH_take (i := 16) (v := ?_) rfl (by kernel_rfl) (by kernel_rfl) (by kernel_rfl) (fun _ _ _ h => h) (Or.inl ⟨by rfl, ?_⟩) (by assumption) ?_
            rotate_left
            · (intro w hSw; (try dsimp only at hSw); go_simp; (try with_reducible rfl))
            try simp only [List.getElem_toArray, List.getElem_cons_succ, List.getElem_cons_zero, Act.put, List.setIfInBounds_toArray, List.set_cons_zero, List.set_cons_succ]
            refine wpAnyH_done (by kernel_rfl) ?_ _
            have HBE := Lib.hid (below_two HB1.out HD4.out)
            go_wp2_with fail
            go_roundw
            case rel => exact ⟨j + 1 + 1, by omega, by go_num, HBE, HF⟩
            case measure => simp [intOf]; omega

          · have HF := Lib.hid (HNO.out (by rw [HST2.out, decide_eq_false hz]))
            have hzz : z ≥ 0 := by omega
            refine wp_region_held_drew (S := fun w' => (w'.cell? ⟨J, 0, none⟩ = some (Value.int .i64 x.mode) ∧ w'.cell? ⟨J, 1, none⟩ = some (Value.int .i64 x.round) ∧ w'.cell? ⟨J, 2, none⟩ = some (Value.int .i64 x.slot) ∧ w'.cell? ⟨J, 3, none⟩ = some (Value.int .i64 x.desc.node) ∧ w'.cell? ⟨J, 4, none⟩ = some (Value.int .i64 x.desc.kind) ∧ w'.cell? ⟨J, 5, none⟩ = some (Value.int .i64 x.desc.size) ∧ w'.cell? ⟨J, 6, none⟩ = some (Value.int .i64 x.desc.dur) ∧ w'.cell? ⟨J, 7, none⟩ = some (Value.bool x.desc.chg)) ∧ (w'.cell? ⟨b, off + j * 8, none⟩ = some (Value.int .i64 y.mode) ∧ w'.cell? ⟨b, off + j * 8 + 1, none⟩ = some (Value.int .i64 y.round) ∧ w'.cell? ⟨b, off + j * 8 + 2, none⟩ = some (Value.int .i64 y.slot) ∧ w'.cell? ⟨b, off + j * 8 + 3, none⟩ = some (Value.int .i64 y.desc.node) ∧ w'.cell? ⟨b, off + j * 8 + 4, none⟩ = some (Value.int .i64 y.desc.kind) ∧ w'.cell? ⟨b, off + j * 8 + 5, none⟩ = some (Value.int .i64 y.desc.size) ∧ w'.cell? ⟨b, off + j * 8 + 6, none⟩ = some (Value.int .i64 y.desc.dur) ∧ w'.cell? ⟨b, off + j * 8 + 7, none⟩ = some (Value.bool y.desc.chg))) (by kernel_rfl) (⟨HXW.out _ HD.out, HYW.out _ HD.out⟩) (fun hHeld => ?_)
            generalize w1.drew = w2 at HD hHeld ⊢
            refine wpAnyH_take (i := 0) (v := ?_) rfl (by kernel_rfl) (by kernel_rfl) (by kernel_rfl) (fun _ _ _ h => h) (Or.inl ⟨by rfl, ?_⟩) (by assumption) ?_
            rotate_left
            · (intro w hSw; (try dsimp only at hSw); go_simp; (try with_reducible rfl))
            try simp only [List.getElem_toArray, List.getElem_cons_succ, List.getElem_cons_zero, Act.put, List.setIfInBounds_toArray, List.set_cons_zero, List.set_cons_succ]
            refine wpAnyH_ready (rs := [1]) (by kernel_rfl) (by simp) (AllReadyH.cons rfl (fun K hK => ?_) AllReadyH.nil)
            go_simp
            refine (HI.out _).mono ?_
            rintro e w3 ⟨rfl, b3⟩
            rw [hv]
            have HD3 := Lib.hid (below_two HD.out b3); clear b3
            go_wp2_with fail
            refine hK.out _ _ ?_ (fun hHeld => ?_)
            · exact ⟨HXW.out _ HD3.out, HYW.out _ HD3.out⟩
            clear hK K
            try simp only [List.getElem_toArray, List.getElem_cons_succ, List.getElem_cons_zero, Act.put, List.setIfInBounds_toArray, List.set_cons_zero, List.set_cons_succ]
            refine wpAnyH_take (i := 2) (v := ?_) rfl (by kernel_rfl) (by kernel_rfl) (by kernel_rfl) (fun _ _ _ h => h) (Or.inl ⟨by rfl, ?_⟩) (by assumption) ?_
            rotate_left
            · (intro w hSw; (try dsimp only at hSw); go_simp; (try with_reducible rfl))
            try simp only [List.getElem_toArray, List.getElem_cons_succ, List.getElem_cons_zero, Act.put, List.setIfInBounds_toArray, List.set_cons_zero, List.set_cons_succ]
            refine wpAnyH_take (i := 3) (v := ?_) rfl (by kernel_rfl) (by kernel_rfl) (by kernel_rfl) (fun _ _ _ h => h) (Or.inl ⟨by rfl, ?_⟩) (by assumption) ?_
            rotate_left
            · (intro w hSw; (try dsimp only at hSw); go_simp; (try with_reducible rfl))
            try simp only [List.getElem_toArray, List.getElem_cons_succ, List.getElem_cons_zero, Act.put, List.setIfInBounds_toArray, List.set_cons_zero, List.set_cons_succ]
            refine wpAnyH_take (i := 4) (v := ?_) rfl (by kernel_rfl) (by kernel_rfl) (by kernel_rfl) (fun _ _ _ h => h) (Or.inl ⟨by rfl, ?_⟩) (by assumption) ?_
            rotate_left
            · (intro w hSw; (try dsimp only at hSw); go_simp; (try with_reducible rfl))
            try simp only [List.getElem_toArray, List.getElem_cons_succ, List.getElem_cons_zero, Act.put, List.setIfInBounds_toArray, List.set_cons_zero, List.set_cons_succ]
            refine wpAnyH_take (i := 5) (v := ?_) rfl (by kernel_rfl) (by kernel_rfl) (by kernel_rfl) (fun _ _ _ h => h) (Or.inl ⟨by rfl, ?_⟩) (by assumption) ?_
            rotate_left
            · (intro w hSw; (try dsimp only at hSw); go_simp; (try with_reducible rfl))
            try simp only [List.getElem_toArray, List.getElem_cons_succ, List.getElem_cons_zero, Act.put, List.setIfInBounds_toArray, List.set_cons_zero, List.set_cons_succ]
            refine wpAnyH_take (i := 6) (v := ?_) rfl (by kernel_rfl) (by kernel_rfl) (by kernel_rfl) (fun _ _ _ h => h) (Or.inl ⟨by rfl, ?_⟩) (by assumption) ?_
            rotate_left
            · (intro w hSw; (try dsimp only at hSw); go_simp; (try with_reducible rfl))
            try simp only [List.getElem_toArray, List.getElem_cons_succ, List.getElem_cons_zero, Act.put, List.setIfInBounds_toArray, List.set_cons_zero, List.set_cons_succ]
            refine wpAnyH_take (i := 7) (v := ?_) rfl (by kernel_rfl) (by kernel_rfl) (by kernel_rfl) (fun _ _ _ h => h) (Or.inl ⟨by rfl, ?_⟩) (by assumption) ?_
            rotate_left
            · (intro w hSw; (try dsimp only at hSw); go_simp; (try with_reducible rfl))
            try simp only [List.getElem_toArray, List.getElem_cons_succ, List.getElem_cons_zero, Act.put, List.setIfInBounds_toArray, List.set_cons_zero, List.set_cons_succ]
            refine wpAnyH_take (i := 8) (v := ?_) rfl (by kernel_rfl) (by kernel_rfl) (by kernel_rfl) (fun _ _ _ h => h) (Or.inl ⟨by rfl, ?_⟩) (by assumption) ?_
            rotate_left
            · (intro w hSw; (try dsimp only at hSw); go_simp; (try with_reducible rfl))
            try simp only [List.getElem_toArray, List.getElem_cons_succ, List.getElem_cons_zero, Act.put, List.setIfInBounds_toArray, List.set_cons_zero, List.set_cons_succ]
            refine wpAnyH_take (i := 9) (v := ?_) rfl (by kernel_rfl) (by kernel_rfl) (by kernel_rfl) (fun _ _ _ h => h) (Or.inl ⟨by rfl, ?_⟩) (by assumption) ?_
            rotate_left
            · (intro w hSw; (try dsimp only at hSw); go_simp; (try with_reducible rfl))
            try simp only [List.getElem_toArray, List.getElem_cons_succ, List.getElem_cons_zero, Act.put, List.setIfInBounds_toArray, List.set_cons_zero, List.set_cons_succ]
            refine wpAnyH_take (i := 10) (v := ?_) rfl (by kernel_rfl) (by kernel_rfl) (by kernel_rfl) (fun _ _ _ h => h) (Or.inl ⟨by rfl, ?_⟩) (by assumption) ?_
            rotate_left
            · (intro w hSw; (try dsimp only at hSw); go_simp; (try with_reducible rfl))
            try simp only [List.getElem_toArray, List.getElem_cons_succ, List.getElem_cons_zero, Act.put, List.setIfInBounds_toArray, List.set_cons_zero, List.set_cons_succ]
            refine wpAnyH_take (i := 11) (v := ?_) rfl (by kernel_rfl) (by kernel_rfl) (by kernel_rfl) (fun _ _ _ h => h) (Or.inl ⟨by rfl, ?_⟩) (by assumption) ?_
            rotate_left
            · (intro w hSw; (try dsimp only at hSw); go_simp; (try with_reducible rfl))
            try simp only [List.getElem_toArray, List.getElem_cons_succ, List.getElem_cons_zero, Act.put, List.setIfInBounds_toArray, List.set_cons_zero, List.set_cons_succ]
            refine wpAnyH_take (i := 12) (v := ?_) rfl (by kernel_rfl) (by kernel_rfl) (by kernel_rfl) (fun _ _ _ h => h) (Or.inl ⟨by rfl, ?_⟩) (by assumption) ?_
            rotate_left
            · (intro w hSw; (try dsimp only at hSw); go_simp; (try with_reducible rfl))
            try simp only [List.getElem_toArray, List.getElem_cons_succ, List.getElem_cons_zero, Act.put, List.setIfInBounds_toArray, List.set_cons_zero, List.set_cons_succ]
            refine wpAnyH_ready (rs := [13]) (by kernel_rfl) (by simp) (AllReadyH.cons rfl (fun K hK => ?_) AllReadyH.nil)
            go_simp
            refine (HCMP.out _).mono ?_
            rintro e w4 ⟨rfl, b4⟩
            have HD4 := Lib.hid (below_two HD3.out b4); clear b4
            go_wp2_with fail
            refine hK.out _ _ ?_ (fun hHeld => ?_)
            · exact ⟨HXW.out _ HD4.out, HYW.out _ HD4.out⟩
            clear hK K
            try simp only [List.getElem_toArray, List.getElem_cons_succ, List.getElem_cons_zero, Act.put, List.setIfInBounds_toArray, List.set_cons_zero, List.set_cons_succ]
            refine wpAnyH_take (i := 14) (v := ?_) rfl (by kernel_rfl) (by kernel_rfl) (by kernel_rfl) (fun _ _ _ h => h) (Or.inl ⟨by rfl, ?_⟩) (by assumption) ?_
            rotate_left
            · (intro w hSw; (try dsimp only at hSw); go_simp; (try with_reducible rfl))
            try simp only [List.getElem_toArray, List.getElem_cons_succ, List.getElem_cons_zero, Act.put, List.setIfInBounds_toArray, List.set_cons_zero, List.set_cons_succ]
            refine wpAnyH_take (i := 15) (v := ?_) rfl (by kernel_rfl) (by kernel_rfl) (by kernel_rfl) (fun _ _ _ h => h) (Or.inl ⟨by rfl, ?_⟩) (by assumption) ?_
            rotate_left
            · (intro w hSw; (try dsimp only at hSw); go_simp; (try with_reducible rfl))
            try simp only [List.getElem_toArray, List.getElem_cons_succ, List.getElem_cons_zero, Act.put, List.setIfInBounds_toArray, List.set_cons_zero, List.set_cons_succ]
            refine wpAnyH_take (i := 16) (v := ?_) rfl (by kernel_rfl) (by kernel_rfl) (by kernel_rfl) (fun _ _ _ h => h) (Or.inl ⟨by rfl, ?_⟩) (by assumption) ?_
            rotate_left
            · (intro w hSw; (try dsimp only at hSw); go_simp; (try with_reducible rfl))
            try simp only [List.getElem_toArray, List.getElem_cons_succ, List.getElem_cons_zero, Act.put, List.setIfInBounds_toArray, List.set_cons_zero, List.set_cons_succ]
            refine wpAnyH_done (by kernel_rfl) ?_ _
            have HBE := Lib.hid (below_two HB1.out HD4.out)
            go_wp2_with fail
            go_ret
            rw [HF.out]
            exact ⟨rfl, HBE.out⟩
    · have hkn : k = n := by omega
      subst hkn
      have HF := Lib.hid (isSls_steps.2 ⟨by rw [HL.out]; exact HN.out, by rw [HL.out]; exact hall.out⟩)
      go_wp2_with fail
      go_ret
      rw [HF.out]
      exact ⟨rfl, hb.out⟩
set_option maxRecDepth 100000 in
set_option maxHeartbeats 4000000 in
set_option linter.unusedSimpArgs false in
theorem isSlsS_any (ao : Option Addr) (n cap : Nat) (t : List Sl) (w : World) (hr : RdE w ao n t) (hn : n ≤ 1048576) :
    Calls Tryz.prog 45 #[.slice ao n cap] w fun e w' => e = .returned (.bool (isSls t)) ∧ Below w.heap.size w w' := by
  have hl := hr.len
  by_cases h120 : 120 < n
  · have HF := Lib.hid (show isSls t = false from by unfold isSls; rw [decide_eq_false (show ¬ t.length ≤ 120 by omega)]; rfl)
    clear hr hl
    have hg : (120 : Int) < (n : Int) := by omega
    go_enter Tryz.func45, Tryz.ntmps45
    go_wp2
    go_ret
    rw [HF.out]
    exact ⟨rfl, Below.refl _ _⟩
  have hg : ¬ (120 : Int) < (n : Int) := by omega
  have HL := Lib.hid hl
  have HR := Lib.hid hr
  have HN := Lib.hid (show n ≤ 120 by omega)
  clear hl hr h120
  go_enter Tryz.func45, Tryz.ntmps45
  go_wp2_with fail
  clear hg
  go_loopw [3] (fun i wr => ∃ k : Nat, k ≤ n ∧ i = .int .i64 k ∧ Hid (Below w.heap.size w wr) ∧ Hid (∀ i, i < k → stepSl t i = true)) (fun i _ => n - (intOf i).toNat)
  case atStart => exact ⟨0, Nat.zero_le _, rfl, Below.refl _ _, fun i h => absurd h (by omega)⟩
  case round =>
    obtain ⟨k, hk, rfl, hb, hall⟩ := hrel
    by_cases hlt : k < n
    · obtain ⟨b, off, e0, hg, hx⟩ := HR.out.at hlt
      subst e0
      replace hx := Lib.hid (hx.below hb.out hg)
      have HNO := Lib.hid (fun h => sls_no (t := t) (k := k) (by rw [HL.out]; exact hlt) h)
      have HYES := Lib.hid (fun h => okS_next (t := t) (k := k) hall.out h)
      have HST := Lib.hid (show stepSl t k = (isSl (slOf t k) && (decide (k = 0) || decide (cmpSl (slOf t (k - 1)) (slOf t k) < 0))) from rfl)
      have HPV := Lib.hid (fun j (hj : k = j + 1) => (by
        obtain ⟨b', off', e, hc⟩ := HR.out.here (by omega)
        cases e
        exact (hc j (by omega)).below hb.out (hc j (by omega)).lt : SlIn wr b (off + j * 8) (slOf t j)))
      obtain ⟨x, hxe⟩ : ∃ x, x = slOf t k := ⟨_, rfl⟩
      rw [← hxe] at hx HST
      clear hxe hall
      have HI := Lib.hid (fun W => isSlS_any x W)
      unfold slVal at HI
      go_upto_region 6 with fail
      have HB1 := hb; have HX1 := hx; have HP1 := HPV
      clear hb hx HPV
      generalize wr = w1 at HB1 HX1 HP1 ⊢
      have HXW := Lib.hid (fun W (hW : Below w1.heap.size w1 W) => (HX1.out.below (B := w1.heap.size) hW HX1.out.lt).all8)
      have HD := Lib.hid (show Below w1.heap.size w1 w1.drew from Below.drew (Below.refl _ _))
      rcases hv : isSl x with _ | _
      · have HF := Lib.hid (HNO.out (by rw [HST.out, hv]; rfl))
        refine wp_region_held_drew (S := fun w' => w'.cell? ⟨b, off + k * 8, none⟩ = some (Value.int .i64 x.mode) ∧ w'.cell? ⟨b, off + k * 8 + 1, none⟩ = some (Value.int .i64 x.round) ∧ w'.cell? ⟨b, off + k * 8 + 2, none⟩ = some (Value.int .i64 x.slot) ∧ w'.cell? ⟨b, off + k * 8 + 3, none⟩ = some (Value.int .i64 x.desc.node) ∧ w'.cell? ⟨b, off + k * 8 + 4, none⟩ = some (Value.int .i64 x.desc.kind) ∧ w'.cell? ⟨b, off + k * 8 + 5, none⟩ = some (Value.int .i64 x.desc.size) ∧ w'.cell? ⟨b, off + k * 8 + 6, none⟩ = some (Value.int .i64 x.desc.dur) ∧ w'.cell? ⟨b, off + k * 8 + 7, none⟩ = some (Value.bool x.desc.chg)) (by kernel_rfl) (HXW.out _ HD.out) (fun hHeld => ?_)
        generalize w1.drew = w2 at HD hHeld ⊢
        refine wpAnyH_take (i := 0) (v := ?_) rfl (by kernel_rfl) (by kernel_rfl) (by kernel_rfl) (fun _ _ _ h => h) (Or.inl ⟨by rfl, ?_⟩) (by assumption) ?_
        rotate_left
        · (intro w hSw; (try dsimp only at hSw); go_simp; (try with_reducible rfl))
        try simp only [List.getElem_toArray, List.getElem_cons_succ, List.getElem_cons_zero, Act.put, List.setIfInBounds_toArray, List.set_cons_zero, List.set_cons_succ]
        refine wpAnyH_take (i := 1) (v := ?_) rfl (by kernel_rfl) (by kernel_rfl) (by kernel_rfl) (fun _ _ _ h => h) (Or.inl ⟨by rfl, ?_⟩) (by assumption) ?_
        rotate_left
        · (intro w hSw; (try dsimp only at hSw); go_simp; (try with_reducible rfl))
        try simp only [List.getElem_toArray, List.getElem_cons_succ, List.getElem_cons_zero, Act.put, List.setIfInBounds_toArray, List.set_cons_zero, List.set_cons_succ]
        refine wpAnyH_take (i := 2) (v := ?_) rfl (by kernel_rfl) (by kernel_rfl) (by kernel_rfl) (fun _ _ _ h => h) (Or.inl ⟨by rfl, ?_⟩) (by assumption) ?_
        rotate_left
        · (intro w hSw; (try dsimp only at hSw); go_simp; (try with_reducible rfl))
        try simp only [List.getElem_toArray, List.getElem_cons_succ, List.getElem_cons_zero, Act.put, List.setIfInBounds_toArray, List.set_cons_zero, List.set_cons_succ]
        refine wpAnyH_take (i := 3) (v := ?_) rfl (by kernel_rfl) (by kernel_rfl) (by kernel_rfl) (fun _ _ _ h => h) (Or.inl ⟨by rfl, ?_⟩) (by assumption) ?_
        rotate_left
        · (intro w hSw; (try dsimp only at hSw); go_simp; (try with_reducible rfl))
        try simp only [List.getElem_toArray, List.getElem_cons_succ, List.getElem_cons_zero, Act.put, List.setIfInBounds_toArray, List.set_cons_zero, List.set_cons_succ]
        refine wpAnyH_ready (rs := [4]) (by kernel_rfl) (by simp) (AllReadyH.cons rfl (fun K hK => ?_) AllReadyH.nil)
        go_simp
        refine (HI.out _).mono ?_
        rintro e w3 ⟨rfl, b3⟩
        rw [hv]
        have HD3 := Lib.hid (below_two HD.out b3); clear b3
        go_wp2_with fail
        refine hK.out _ _ ?_ (fun hHeld => ?_)
        · exact HXW.out _ HD3.out
        clear hK K
        try simp only [List.getElem_toArray, List.getElem_cons_succ, List.getElem_cons_zero, Act.put, List.setIfInBounds_toArray, List.set_cons_zero, List.set_cons_succ]
        refine wpAnyH_take (i := 5) (v := ?_) rfl (by kernel_rfl) (by kernel_rfl) (by kernel_rfl) (fun _ _ _ h => h) (Or.inl ⟨by rfl, ?_⟩) (by assumption) ?_
        rotate_left
        · (intro w hSw; (try dsimp only at hSw); go_simp; (try with_reducible rfl))
        try simp only [List.getElem_toArray, List.getElem_cons_succ, List.getElem_cons_zero, Act.put, List.setIfInBounds_toArray, List.set_cons_zero, List.set_cons_succ]
        refine wpAnyH_take (i := 6) (v := ?_) rfl (by kernel_rfl) (by kernel_rfl) (by kernel_rfl) (fun _ _ _ h => h) (Or.inl ⟨by rfl, ?_⟩) (by assumption) ?_
        rotate_left
        · (intro w hSw; (try dsimp only at hSw); go_simp; (try with_reducible rfl))
        try simp only [List.getElem_toArray, List.getElem_cons_succ, List.getElem_cons_zero, Act.put, List.setIfInBounds_toArray, List.set_cons_zero, List.set_cons_succ]
        refine wpAnyH_take (i := 7) (v := undef) rfl (by kernel_rfl) (by kernel_rfl) (by kernel_rfl) (fun _ _ _ h => h) (Or.inr ⟨by rfl, rfl⟩) (by assumption) ?_
        try simp only [List.getElem_toArray, List.getElem_cons_succ, List.getElem_cons_zero, Act.put, List.setIfInBounds_toArray, List.set_cons_zero, List.set_cons_succ]
        refine wpAnyH_take (i := 8) (v := undef) rfl (by kernel_rfl) (by kernel_rfl) (by kernel_rfl) (fun _ _ _ h => h) (Or.inr ⟨by rfl, rfl⟩) (by assumption) ?_
        try simp only [List.getElem_toArray, List.getElem_cons_succ, List.getElem_cons_zero, Act.put, List.setIfInBounds_toArray, List.set_cons_zero, List.set_cons_succ]
        refine wpAnyH_take (i := 9) (v := undef) rfl (by kernel_rfl) (by kernel_rfl) (by kernel_rfl) (fun _ _ _ h => h) (Or.inr ⟨by rfl, rfl⟩) (by assumption) ?_
        try simp only [List.getElem_toArray, List.getElem_cons_succ, List.getElem_cons_zero, Act.put, List.setIfInBounds_toArray, List.set_cons_zero, List.set_cons_succ]
        refine wpAnyH_take (i := 10) (v := undef) rfl (by kernel_rfl) (by kernel_rfl) (by kernel_rfl) (fun _ _ _ h => h) (Or.inr ⟨by rfl, rfl⟩) (by assumption) ?_
        try simp only [List.getElem_toArray, List.getElem_cons_succ, List.getElem_cons_zero, Act.put, List.setIfInBounds_toArray, List.set_cons_zero, List.set_cons_succ]
        refine wpAnyH_take (i := 11) (v := undef) rfl (by kernel_rfl) (by kernel_rfl) (by kernel_rfl) (fun _ _ _ h => h) (Or.inr ⟨by rfl, rfl⟩) (by assumption) ?_
        try simp only [List.getElem_toArray, List.getElem_cons_succ, List.getElem_cons_zero, Act.put, List.setIfInBounds_toArray, List.set_cons_zero, List.set_cons_succ]
        refine wpAnyH_take (i := 12) (v := undef) rfl (by kernel_rfl) (by kernel_rfl) (by kernel_rfl) (fun _ _ _ h => h) (Or.inr ⟨by rfl, rfl⟩) (by assumption) ?_
        try simp only [List.getElem_toArray, List.getElem_cons_succ, List.getElem_cons_zero, Act.put, List.setIfInBounds_toArray, List.set_cons_zero, List.set_cons_succ]
        refine wpAnyH_take (i := 13) (v := undef) rfl (by kernel_rfl) (by kernel_rfl) (by kernel_rfl) (fun _ _ _ h => h) (Or.inr ⟨by rfl, rfl⟩) (by assumption) ?_
        try simp only [List.getElem_toArray, List.getElem_cons_succ, List.getElem_cons_zero, Act.put, List.setIfInBounds_toArray, List.set_cons_zero, List.set_cons_succ]
        refine wpAnyH_take (i := 14) (v := undef) rfl (by kernel_rfl) (by kernel_rfl) (by kernel_rfl) (fun _ _ _ h => h) (Or.inr ⟨by rfl, rfl⟩) (by assumption) ?_
        try simp only [List.getElem_toArray, List.getElem_cons_succ, List.getElem_cons_zero, Act.put, List.setIfInBounds_toArray, List.set_cons_zero, List.set_cons_succ]
        refine wpAnyH_take (i := 15) (v := undef) rfl (by kernel_rfl) (by kernel_rfl) (by kernel_rfl) (fun _ _ _ h => h) (Or.inr ⟨by rfl, rfl⟩) (by assumption) ?_
        try simp only [List.getElem_toArray, List.getElem_cons_succ, List.getElem_cons_zero, Act.put, List.setIfInBounds_toArray, List.set_cons_zero, List.set_cons_succ]
        refine wpAnyH_take (i := 16) (v := undef) rfl (by kernel_rfl) (by kernel_rfl) (by kernel_rfl) (fun _ _ _ h => h) (Or.inr ⟨by rfl, rfl⟩) (by assumption) ?_
        try simp only [List.getElem_toArray, List.getElem_cons_succ, List.getElem_cons_zero, Act.put, List.setIfInBounds_toArray, List.set_cons_zero, List.set_cons_succ]
        refine wpAnyH_take (i := 17) (v := undef) rfl (by kernel_rfl) (by kernel_rfl) (by kernel_rfl) (fun _ _ _ h => h) (Or.inr ⟨by rfl, rfl⟩) (by assumption) ?_
        try simp only [List.getElem_toArray, List.getElem_cons_succ, List.getElem_cons_zero, Act.put, List.setIfInBounds_toArray, List.set_cons_zero, List.set_cons_succ]
        refine wpAnyH_take (i := 18) (v := undef) rfl (by kernel_rfl) (by kernel_rfl) (by kernel_rfl) (fun _ _ _ h => h) (Or.inr ⟨by rfl, rfl⟩) (by assumption) ?_
        try simp only [List.getElem_toArray, List.getElem_cons_succ, List.getElem_cons_zero, Act.put, List.setIfInBounds_toArray, List.set_cons_zero, List.set_cons_succ]
        refine wpAnyH_take (i := 19) (v := undef) rfl (by kernel_rfl) (by kernel_rfl) (by kernel_rfl) (fun _ _ _ h => h) (Or.inr ⟨by rfl, rfl⟩) (by assumption) ?_
        try simp only [List.getElem_toArray, List.getElem_cons_succ, List.getElem_cons_zero, Act.put, List.setIfInBounds_toArray, List.set_cons_zero, List.set_cons_succ]
        refine wpAnyH_take (i := 20) (v := undef) rfl (by kernel_rfl) (by kernel_rfl) (by kernel_rfl) (fun _ _ _ h => h) (Or.inr ⟨by rfl, rfl⟩) (by assumption) ?_
        try simp only [List.getElem_toArray, List.getElem_cons_succ, List.getElem_cons_zero, Act.put, List.setIfInBounds_toArray, List.set_cons_zero, List.set_cons_succ]
        refine wpAnyH_take (i := 21) (v := undef) rfl (by kernel_rfl) (by kernel_rfl) (by kernel_rfl) (fun _ _ _ h => h) (Or.inr ⟨by rfl, rfl⟩) (by assumption) ?_
        try simp only [List.getElem_toArray, List.getElem_cons_succ, List.getElem_cons_zero, Act.put, List.setIfInBounds_toArray, List.set_cons_zero, List.set_cons_succ]
        refine wpAnyH_take (i := 22) (v := ?_) rfl (by kernel_rfl) (by kernel_rfl) (by kernel_rfl) (fun _ _ _ h => h) (Or.inl ⟨by rfl, ?_⟩) (by assumption) ?_
        rotate_left
        · (intro w hSw; (try dsimp only at hSw); go_simp; (try with_reducible rfl))
        try simp only [List.getElem_toArray, List.getElem_cons_succ, List.getElem_cons_zero, Act.put, List.setIfInBounds_toArray, List.set_cons_zero, List.set_cons_succ]
        refine wpAnyH_done (by kernel_rfl) ?_ _
        have HBE := Lib.hid (below_two HB1.out HD3.out)
        go_wp2_with fail
        go_ret
        rw [HF.out]
        exact ⟨rfl, HBE.out⟩
      · rcases Nat.eq_zero_or_pos k with h0 | h0
        · have HF := Lib.hid (HYES.out (by rw [HST.out, hv, decide_eq_true h0]; rfl))
          subst h0
          have HXW0 := HXW
          simp only [Nat.zero_mul, Nat.add_zero] at HXW0
          refine wp_region_held_drew (S := fun w' => w'.cell? ⟨b, off, none⟩ = some (Value.int .i64 x.mode) ∧ w'.cell? ⟨b, off + 1, none⟩ = some (Value.int .i64 x.round) ∧ w'.cell? ⟨b, off + 2, none⟩ = some (Value.int .i64 x.slot) ∧ w'.cell? ⟨b, off + 3, none⟩ = some (Value.int .i64 x.desc.node) ∧ w'.cell? ⟨b, off + 4, none⟩ = some (Value.int .i64 x.desc.kind) ∧ w'.cell? ⟨b, off + 5, none⟩ = some (Value.int .i64 x.desc.size) ∧ w'.cell? ⟨b, off + 6, none⟩ = some (Value.int .i64 x.desc.dur) ∧ w'.cell? ⟨b, off + 7, none⟩ = some (Value.bool x.desc.chg)) (by kernel_rfl) (HXW0.out _ HD.out) (fun hHeld => ?_)
          generalize w1.drew = w2 at HD hHeld ⊢
          refine wpAnyH_take (i := 0) (v := ?_) rfl (by kernel_rfl) (by kernel_rfl) (by kernel_rfl) (fun _ _ _ h => h) (Or.inl ⟨by rfl, ?_⟩) (by assumption) ?_
          rotate_left
          · (intro w hSw; (try dsimp only at hSw); go_simp; (try with_reducible rfl))
          try simp only [List.getElem_toArray, List.getElem_cons_succ, List.getElem_cons_zero, Act.put, List.setIfInBounds_toArray, List.set_cons_zero, List.set_cons_succ]
          refine wpAnyH_take (i := 1) (v := ?_) rfl (by kernel_rfl) (by kernel_rfl) (by kernel_rfl) (fun _ _ _ h => h) (Or.inl ⟨by rfl, ?_⟩) (by assumption) ?_
          rotate_left
          · (intro w hSw; (try dsimp only at hSw); go_simp; (try with_reducible rfl))
          try simp only [List.getElem_toArray, List.getElem_cons_succ, List.getElem_cons_zero, Act.put, List.setIfInBounds_toArray, List.set_cons_zero, List.set_cons_succ]
          refine wpAnyH_take (i := 2) (v := ?_) rfl (by kernel_rfl) (by kernel_rfl) (by kernel_rfl) (fun _ _ _ h => h) (Or.inl ⟨by rfl, ?_⟩) (by assumption) ?_
          rotate_left
          · (intro w hSw; (try dsimp only at hSw); go_simp; (try with_reducible rfl))
          try simp only [List.getElem_toArray, List.getElem_cons_succ, List.getElem_cons_zero, Act.put, List.setIfInBounds_toArray, List.set_cons_zero, List.set_cons_succ]
          refine wpAnyH_take (i := 3) (v := ?_) rfl (by kernel_rfl) (by kernel_rfl) (by kernel_rfl) (fun _ _ _ h => h) (Or.inl ⟨by rfl, ?_⟩) (by assumption) ?_
          rotate_left
          · (intro w hSw; (try dsimp only at hSw); go_simp; (try with_reducible rfl))
          try simp only [List.getElem_toArray, List.getElem_cons_succ, List.getElem_cons_zero, Act.put, List.setIfInBounds_toArray, List.set_cons_zero, List.set_cons_succ]
          refine wpAnyH_ready (rs := [4]) (by kernel_rfl) (by simp) (AllReadyH.cons rfl (fun K hK => ?_) AllReadyH.nil)
          go_simp
          refine (HI.out _).mono ?_
          rintro e w3 ⟨rfl, b3⟩
          rw [hv]
          have HD3 := Lib.hid (below_two HD.out b3); clear b3
          go_wp2_with fail
          refine hK.out _ _ ?_ (fun hHeld => ?_)
          · exact HXW0.out _ HD3.out
          clear hK K
          try simp only [List.getElem_toArray, List.getElem_cons_succ, List.getElem_cons_zero, Act.put, List.setIfInBounds_toArray, List.set_cons_zero, List.set_cons_succ]
          refine wpAnyH_take (i := 5) (v := ?_) rfl (by kernel_rfl) (by kernel_rfl) (by kernel_rfl) (fun _ _ _ h => h) (Or.inl ⟨by rfl, ?_⟩) (by assumption) ?_
          rotate_left
          · (intro w hSw; (try dsimp only at hSw); go_simp; (try with_reducible rfl))
          try simp only [List.getElem_toArray, List.getElem_cons_succ, List.getElem_cons_zero, Act.put, List.setIfInBounds_toArray, List.set_cons_zero, List.set_cons_succ]
          refine wpAnyH_take (i := 6) (v := ?_) rfl (by kernel_rfl) (by kernel_rfl) (by kernel_rfl) (fun _ _ _ h => h) (Or.inl ⟨by rfl, ?_⟩) (by assumption) ?_
          rotate_left
          · (intro w hSw; (try dsimp only at hSw); go_simp; (try with_reducible rfl))
          try simp only [List.getElem_toArray, List.getElem_cons_succ, List.getElem_cons_zero, Act.put, List.setIfInBounds_toArray, List.set_cons_zero, List.set_cons_succ]
          refine wpAnyH_take (i := 7) (v := ?_) rfl (by kernel_rfl) (by kernel_rfl) (by kernel_rfl) (fun _ _ _ h => h) (Or.inl ⟨by rfl, ?_⟩) (by assumption) ?_
          rotate_left
          · (intro w hSw; (try dsimp only at hSw); go_simp; (try with_reducible rfl))
          try simp only [List.getElem_toArray, List.getElem_cons_succ, List.getElem_cons_zero, Act.put, List.setIfInBounds_toArray, List.set_cons_zero, List.set_cons_succ]
          refine wpAnyH_take (i := 8) (v := ?_) rfl (by kernel_rfl) (by kernel_rfl) (by kernel_rfl) (fun _ _ _ h => h) (Or.inl ⟨by rfl, ?_⟩) (by assumption) ?_
          rotate_left
          · (intro w hSw; (try dsimp only at hSw); go_simp; (try with_reducible rfl))
          try simp only [List.getElem_toArray, List.getElem_cons_succ, List.getElem_cons_zero, Act.put, List.setIfInBounds_toArray, List.set_cons_zero, List.set_cons_succ]
          refine wpAnyH_take (i := 9) (v := ?_) rfl (by kernel_rfl) (by kernel_rfl) (by kernel_rfl) (fun _ _ _ h => h) (Or.inl ⟨by rfl, ?_⟩) (by assumption) ?_
          rotate_left
          · (intro w hSw; (try dsimp only at hSw); go_simp; (try with_reducible rfl))
          try simp only [List.getElem_toArray, List.getElem_cons_succ, List.getElem_cons_zero, Act.put, List.setIfInBounds_toArray, List.set_cons_zero, List.set_cons_succ]
          refine wpAnyH_take (i := 10) (v := undef) rfl (by kernel_rfl) (by kernel_rfl) (by kernel_rfl) (fun _ _ _ h => h) (Or.inr ⟨by rfl, rfl⟩) (by assumption) ?_
          try simp only [List.getElem_toArray, List.getElem_cons_succ, List.getElem_cons_zero, Act.put, List.setIfInBounds_toArray, List.set_cons_zero, List.set_cons_succ]
          refine wpAnyH_take (i := 11) (v := undef) rfl (by kernel_rfl) (by kernel_rfl) (by kernel_rfl) (fun _ _ _ h => h) (Or.inr ⟨by rfl, rfl⟩) (by assumption) ?_
          try simp only [List.getElem_toArray, List.getElem_cons_succ, List.getElem_cons_zero, Act.put, List.setIfInBounds_toArray, List.set_cons_zero, List.set_cons_succ]
          refine wpAnyH_take (i := 12) (v := undef) rfl (by kernel_rfl) (by kernel_rfl) (by kernel_rfl) (fun _ _ _ h => h) (Or.inr ⟨by rfl, rfl⟩) (by assumption) ?_
          try simp only [List.getElem_toArray, List.getElem_cons_succ, List.getElem_cons_zero, Act.put, List.setIfInBounds_toArray, List.set_cons_zero, List.set_cons_succ]
          refine wpAnyH_take (i := 13) (v := undef) rfl (by kernel_rfl) (by kernel_rfl) (by kernel_rfl) (fun _ _ _ h => h) (Or.inr ⟨by rfl, rfl⟩) (by assumption) ?_
          try simp only [List.getElem_toArray, List.getElem_cons_succ, List.getElem_cons_zero, Act.put, List.setIfInBounds_toArray, List.set_cons_zero, List.set_cons_succ]
          refine wpAnyH_take (i := 14) (v := undef) rfl (by kernel_rfl) (by kernel_rfl) (by kernel_rfl) (fun _ _ _ h => h) (Or.inr ⟨by rfl, rfl⟩) (by assumption) ?_
          try simp only [List.getElem_toArray, List.getElem_cons_succ, List.getElem_cons_zero, Act.put, List.setIfInBounds_toArray, List.set_cons_zero, List.set_cons_succ]
          refine wpAnyH_take (i := 15) (v := undef) rfl (by kernel_rfl) (by kernel_rfl) (by kernel_rfl) (fun _ _ _ h => h) (Or.inr ⟨by rfl, rfl⟩) (by assumption) ?_
          try simp only [List.getElem_toArray, List.getElem_cons_succ, List.getElem_cons_zero, Act.put, List.setIfInBounds_toArray, List.set_cons_zero, List.set_cons_succ]
          refine wpAnyH_take (i := 16) (v := undef) rfl (by kernel_rfl) (by kernel_rfl) (by kernel_rfl) (fun _ _ _ h => h) (Or.inr ⟨by rfl, rfl⟩) (by assumption) ?_
          try simp only [List.getElem_toArray, List.getElem_cons_succ, List.getElem_cons_zero, Act.put, List.setIfInBounds_toArray, List.set_cons_zero, List.set_cons_succ]
          refine wpAnyH_take (i := 17) (v := undef) rfl (by kernel_rfl) (by kernel_rfl) (by kernel_rfl) (fun _ _ _ h => h) (Or.inr ⟨by rfl, rfl⟩) (by assumption) ?_
          try simp only [List.getElem_toArray, List.getElem_cons_succ, List.getElem_cons_zero, Act.put, List.setIfInBounds_toArray, List.set_cons_zero, List.set_cons_succ]
          refine wpAnyH_take (i := 18) (v := undef) rfl (by kernel_rfl) (by kernel_rfl) (by kernel_rfl) (fun _ _ _ h => h) (Or.inr ⟨by rfl, rfl⟩) (by assumption) ?_
          try simp only [List.getElem_toArray, List.getElem_cons_succ, List.getElem_cons_zero, Act.put, List.setIfInBounds_toArray, List.set_cons_zero, List.set_cons_succ]
          refine wpAnyH_take (i := 19) (v := undef) rfl (by kernel_rfl) (by kernel_rfl) (by kernel_rfl) (fun _ _ _ h => h) (Or.inr ⟨by rfl, rfl⟩) (by assumption) ?_
          try simp only [List.getElem_toArray, List.getElem_cons_succ, List.getElem_cons_zero, Act.put, List.setIfInBounds_toArray, List.set_cons_zero, List.set_cons_succ]
          refine wpAnyH_take (i := 20) (v := undef) rfl (by kernel_rfl) (by kernel_rfl) (by kernel_rfl) (fun _ _ _ h => h) (Or.inr ⟨by rfl, rfl⟩) (by assumption) ?_
          try simp only [List.getElem_toArray, List.getElem_cons_succ, List.getElem_cons_zero, Act.put, List.setIfInBounds_toArray, List.set_cons_zero, List.set_cons_succ]
          refine wpAnyH_take (i := 21) (v := ?_) rfl (by kernel_rfl) (by kernel_rfl) (by kernel_rfl) (fun _ _ _ h => h) (Or.inl ⟨by rfl, ?_⟩) (by assumption) ?_
          rotate_left
          · (intro w hSw; (try dsimp only at hSw); go_simp; (try with_reducible rfl))
          try simp only [List.getElem_toArray, List.getElem_cons_succ, List.getElem_cons_zero, Act.put, List.setIfInBounds_toArray, List.set_cons_zero, List.set_cons_succ]
          refine wpAnyH_take (i := 22) (v := ?_) rfl (by kernel_rfl) (by kernel_rfl) (by kernel_rfl) (fun _ _ _ h => h) (Or.inl ⟨by rfl, ?_⟩) (by assumption) ?_
          rotate_left
          · (intro w hSw; (try dsimp only at hSw); go_simp; (try with_reducible rfl))
          try simp only [List.getElem_toArray, List.getElem_cons_succ, List.getElem_cons_zero, Act.put, List.setIfInBounds_toArray, List.set_cons_zero, List.set_cons_succ]
          refine wpAnyH_done (by kernel_rfl) ?_ _
          have HBE := Lib.hid (below_two HB1.out HD3.out)
          go_wp2_with fail
          go_roundw
          case rel => exact ⟨0 + 1, by omega, by go_num, HBE, HF⟩
          case measure => simp [intOf]; omega
        · obtain ⟨j, hkj⟩ : ∃ j, k = j + 1 := ⟨k - 1, by omega⟩
          have HPY := Lib.hid (HP1.out j hkj)
          have HST2 := Lib.hid (show stepSl t k = decide (cmpSl (slOf t j) x < 0) from by rw [HST.out, hv, hkj, Nat.add_sub_cancel]; simp)
          obtain ⟨y, hye⟩ : ∃ y, y = slOf t j := ⟨_, rfl⟩
          rw [← hye] at HPY HST2
          have HCMP := Lib.hid (fun W => cmpSlS_any y x W)
          unfold slVal at HCMP
          clear hye HST HP1
          have HYW := Lib.hid (fun W (hW : Below w1.heap.size w1 W) => (HPY.out.below hW HPY.out.lt).all8)
          have hwj : IntKind.i64.wrap ((k : Int) - 1) = (j : Int) := by rw [IntKind.wrap_i64]; omega
          have hj0 : (0 : Int) ≤ (j : Int) := by omega
          have hjn : (j : Int) < (n : Int) := by omega
          obtain ⟨z, hz⟩ : ∃ z, z = cmpSl y x := ⟨_, rfl⟩
          rw [← hz] at HCMP HST2
          clear hz
          have h0k : (0 : Int) < (k : Int) := by omega
          clear hkj
          by_cases hz : z < 0
          · have HF := Lib.hid (HYES.out (by rw [HST2.out, decide_eq_true hz]))
            have hzz : ¬ z ≥ 0 := by omega
            refine wp_region_held_drew (S := fun w' => (w'.cell? ⟨b, off + k * 8, none⟩ = some (Value.int .i64 x.mode) ∧ w'.cell? ⟨b, off + k * 8 + 1, none⟩ = some (Value.int .i64 x.round) ∧ w'.cell? ⟨b, off + k * 8 + 2, none⟩ = some (Value.int .i64 x.slot) ∧ w'.cell? ⟨b, off + k * 8 + 3, none⟩ = some (Value.int .i64 x.desc.node) ∧ w'.cell? ⟨b, off + k * 8 + 4, none⟩ = some (Value.int .i64 x.desc.kind) ∧ w'.cell? ⟨b, off + k * 8 + 5, none⟩ = some (Value.int .i64 x.desc.size) ∧ w'.cell? ⟨b, off + k * 8 + 6, none⟩ = some (Value.int .i64 x.desc.dur) ∧ w'.cell? ⟨b, off + k * 8 + 7, none⟩ = some (Value.bool x.desc.chg)) ∧ (w'.cell? ⟨b, off + j * 8, none⟩ = some (Value.int .i64 y.mode) ∧ w'.cell? ⟨b, off + j * 8 + 1, none⟩ = some (Value.int .i64 y.round) ∧ w'.cell? ⟨b, off + j * 8 + 2, none⟩ = some (Value.int .i64 y.slot) ∧ w'.cell? ⟨b, off + j * 8 + 3, none⟩ = some (Value.int .i64 y.desc.node) ∧ w'.cell? ⟨b, off + j * 8 + 4, none⟩ = some (Value.int .i64 y.desc.kind) ∧ w'.cell? ⟨b, off + j * 8 + 5, none⟩ = some (Value.int .i64 y.desc.size) ∧ w'.cell? ⟨b, off + j * 8 + 6, none⟩ = some (Value.int .i64 y.desc.dur) ∧ w'.cell? ⟨b, off + j * 8 + 7, none⟩ = some (Value.bool y.desc.chg))) (by kernel_rfl) (⟨HXW.out _ HD.out, HYW.out _ HD.out⟩) (fun hHeld => ?_)
            generalize w1.drew = w2 at HD hHeld ⊢
            refine wpAnyH_take (i := 0) (v := ?_) rfl (by kernel_rfl) (by kernel_rfl) (by kernel_rfl) (fun _ _ _ h => h) (Or.inl ⟨by rfl, ?_⟩) (by assumption) ?_
            rotate_left
            · (intro w hSw; (try dsimp only at hSw); go_simp; (try with_reducible rfl))
            try simp only [List.getElem_toArray, List.getElem_cons_succ, List.getElem_cons_zero, Act.put, List.setIfInBounds_toArray, List.set_cons_zero, List.set_cons_succ]
            refine wpAnyH_take (i := 1) (v := ?_) rfl (by kernel_rfl) (by kernel_rfl) (by kernel_rfl) (fun _ _ _ h => h) (Or.inl ⟨by rfl, ?_⟩) (by assumption) ?_
            rotate_left
            · (intro w hSw; (try dsimp only at hSw); go_simp; (try with_reducible rfl))
            try simp only [List.getElem_toArray, List.getElem_cons_succ, List.getElem_cons_zero, Act.put, List.setIfInBounds_toArray, List.set_cons_zero, List.set_cons_succ]
            refine wpAnyH_take (i := 2) (v := ?_) rfl (by kernel_rfl) (by kernel_rfl) (by kernel_rfl) (fun _ _ _ h => h) (Or.inl ⟨by rfl, ?_⟩) (by assumption) ?_
            rotate_left
            · (intro w hSw; (try dsimp only at hSw); go_simp; (try with_reducible rfl))
            try simp only [List.getElem_toArray, List.getElem_cons_succ, List.getElem_cons_zero, Act.put, List.setIfInBounds_toArray, List.set_cons_zero, List.set_cons_succ]
            refine wpAnyH_take (i := 3) (v := ?_) rfl (by kernel_rfl) (by kernel_rfl) (by kernel_rfl) (fun _ _ _ h => h) (Or.inl ⟨by rfl, ?_⟩) (by assumption) ?_
            rotate_left
            · (intro w hSw; (try dsimp only at hSw); go_simp; (try with_reducible rfl))
            try simp only [List.getElem_toArray, List.getElem_cons_succ, List.getElem_cons_zero, Act.put, List.setIfInBounds_toArray, List.set_cons_zero, List.set_cons_succ]
            refine wpAnyH_ready (rs := [4]) (by kernel_rfl) (by simp) (AllReadyH.cons rfl (fun K hK => ?_) AllReadyH.nil)
            go_simp
            refine (HI.out _).mono ?_
            rintro e w3 ⟨rfl, b3⟩
            rw [hv]
            have HD3 := Lib.hid (below_two HD.out b3); clear b3
            go_wp2_with fail
            refine hK.out _ _ ?_ (fun hHeld => ?_)
            · exact ⟨HXW.out _ HD3.out, HYW.out _ HD3.out⟩
            clear hK K
            try simp only [List.getElem_toArray, List.getElem_cons_succ, List.getElem_cons_zero, Act.put, List.setIfInBounds_toArray, List.set_cons_zero, List.set_cons_succ]
            refine wpAnyH_take (i := 5) (v := ?_) rfl (by kernel_rfl) (by kernel_rfl) (by kernel_rfl) (fun _ _ _ h => h) (Or.inl ⟨by rfl, ?_⟩) (by assumption) ?_
            rotate_left
            · (intro w hSw; (try dsimp only at hSw); go_simp; (try with_reducible rfl))
            try simp only [List.getElem_toArray, List.getElem_cons_succ, List.getElem_cons_zero, Act.put, List.setIfInBounds_toArray, List.set_cons_zero, List.set_cons_succ]
            refine wpAnyH_take (i := 6) (v := ?_) rfl (by kernel_rfl) (by kernel_rfl) (by kernel_rfl) (fun _ _ _ h => h) (Or.inl ⟨by rfl, ?_⟩) (by assumption) ?_
            rotate_left
            · (intro w hSw; (try dsimp only at hSw); go_simp; (try with_reducible rfl))
            try simp only [List.getElem_toArray, List.getElem_cons_succ, List.getElem_cons_zero, Act.put, List.setIfInBounds_toArray, List.set_cons_zero, List.set_cons_succ]
            refine wpAnyH_take (i := 7) (v := ?_) rfl (by kernel_rfl) (by kernel_rfl) (by kernel_rfl) (fun _ _ _ h => h) (Or.inl ⟨by rfl, ?_⟩) (by assumption) ?_
            rotate_left
            · (intro w hSw; (try dsimp only at hSw); go_simp; (try with_reducible rfl))
            try simp only [List.getElem_toArray, List.getElem_cons_succ, List.getElem_cons_zero, Act.put, List.setIfInBounds_toArray, List.set_cons_zero, List.set_cons_succ]
            refine wpAnyH_take (i := 8) (v := ?_) rfl (by kernel_rfl) (by kernel_rfl) (by kernel_rfl) (fun _ _ _ h => h) (Or.inl ⟨by rfl, ?_⟩) (by assumption) ?_
            rotate_left
            · (intro w hSw; (try dsimp only at hSw); go_simp; (try with_reducible rfl))
            try simp only [List.getElem_toArray, List.getElem_cons_succ, List.getElem_cons_zero, Act.put, List.setIfInBounds_toArray, List.set_cons_zero, List.set_cons_succ]
            refine wpAnyH_take (i := 9) (v := ?_) rfl (by kernel_rfl) (by kernel_rfl) (by kernel_rfl) (fun _ _ _ h => h) (Or.inl ⟨by rfl, ?_⟩) (by assumption) ?_
            rotate_left
            · (intro w hSw; (try dsimp only at hSw); go_simp; (try with_reducible rfl))
            try simp only [List.getElem_toArray, List.getElem_cons_succ, List.getElem_cons_zero, Act.put, List.setIfInBounds_toArray, List.set_cons_zero, List.set_cons_succ]
            refine wpAnyH_take (i := 10) (v := ?_) rfl (by kernel_rfl) (by kernel_rfl) (by kernel_rfl) (fun _ _ _ h => h) (Or.inl ⟨by rfl, ?_⟩) (by assumption) ?_
            rotate_left
            · (intro w hSw; (try dsimp only at hSw); go_simp; (try with_reducible rfl))
            try simp only [List.getElem_toArray, List.getElem_cons_succ, List.getElem_cons_zero, Act.put, List.setIfInBounds_toArray, List.set_cons_zero, List.set_cons_succ]
            refine wpAnyH_take (i := 11) (v := ?_) rfl (by kernel_rfl) (by kernel_rfl) (by kernel_rfl) (fun _ _ _ h => h) (Or.inl ⟨by rfl, ?_⟩) (by assumption) ?_
            rotate_left
            · (intro w hSw; (try dsimp only at hSw); go_simp; (try with_reducible rfl))
            try simp only [List.getElem_toArray, List.getElem_cons_succ, List.getElem_cons_zero, Act.put, List.setIfInBounds_toArray, List.set_cons_zero, List.set_cons_succ]
            refine wpAnyH_take (i := 12) (v := ?_) rfl (by kernel_rfl) (by kernel_rfl) (by kernel_rfl) (fun _ _ _ h => h) (Or.inl ⟨by rfl, ?_⟩) (by assumption) ?_
            rotate_left
            · (intro w hSw; (try dsimp only at hSw); go_simp; (try with_reducible rfl))
            try simp only [List.getElem_toArray, List.getElem_cons_succ, List.getElem_cons_zero, Act.put, List.setIfInBounds_toArray, List.set_cons_zero, List.set_cons_succ]
            refine wpAnyH_take (i := 13) (v := ?_) rfl (by kernel_rfl) (by kernel_rfl) (by kernel_rfl) (fun _ _ _ h => h) (Or.inl ⟨by rfl, ?_⟩) (by assumption) ?_
            rotate_left
            · (intro w hSw; (try dsimp only at hSw); go_simp; (try with_reducible rfl))
            try simp only [List.getElem_toArray, List.getElem_cons_succ, List.getElem_cons_zero, Act.put, List.setIfInBounds_toArray, List.set_cons_zero, List.set_cons_succ]
            refine wpAnyH_take (i := 14) (v := ?_) rfl (by kernel_rfl) (by kernel_rfl) (by kernel_rfl) (fun _ _ _ h => h) (Or.inl ⟨by rfl, ?_⟩) (by assumption) ?_
            rotate_left
            · (intro w hSw; (try dsimp only at hSw); go_simp; (try with_reducible rfl))
            try simp only [List.getElem_toArray, List.getElem_cons_succ, List.getElem_cons_zero, Act.put, List.setIfInBounds_toArray, List.set_cons_zero, List.set_cons_succ]
            refine wpAnyH_take (i := 15) (v := ?_) rfl (by kernel_rfl) (by kernel_rfl) (by kernel_rfl) (fun _ _ _ h => h) (Or.inl ⟨by rfl, ?_⟩) (by assumption) ?_
            rotate_left
            · (intro w hSw; (try dsimp only at hSw); go_simp; (try with_reducible rfl))
            try simp only [List.getElem_toArray, List.getElem_cons_succ, List.getElem_cons_zero, Act.put, List.setIfInBounds_toArray, List.set_cons_zero, List.set_cons_succ]
            refine wpAnyH_take (i := 16) (v := ?_) rfl (by kernel_rfl) (by kernel_rfl) (by kernel_rfl) (fun _ _ _ h => h) (Or.inl ⟨by rfl, ?_⟩) (by assumption) ?_
            rotate_left
            · (intro w hSw; (try dsimp only at hSw); go_simp; (try with_reducible rfl))
            try simp only [List.getElem_toArray, List.getElem_cons_succ, List.getElem_cons_zero, Act.put, List.setIfInBounds_toArray, List.set_cons_zero, List.set_cons_succ]
            refine wpAnyH_take (i := 17) (v := ?_) rfl (by kernel_rfl) (by kernel_rfl) (by kernel_rfl) (fun _ _ _ h => h) (Or.inl ⟨by rfl, ?_⟩) (by assumption) ?_
            rotate_left
            · (intro w hSw; (try dsimp only at hSw); go_simp; (try with_reducible rfl))
            try simp only [List.getElem_toArray, List.getElem_cons_succ, List.getElem_cons_zero, Act.put, List.setIfInBounds_toArray, List.set_cons_zero, List.set_cons_succ]
            refine wpAnyH_take (i := 18) (v := ?_) rfl (by kernel_rfl) (by kernel_rfl) (by kernel_rfl) (fun _ _ _ h => h) (Or.inl ⟨by rfl, ?_⟩) (by assumption) ?_
            rotate_left
            · (intro w hSw; (try dsimp only at hSw); go_simp; (try with_reducible rfl))
            try simp only [List.getElem_toArray, List.getElem_cons_succ, List.getElem_cons_zero, Act.put, List.setIfInBounds_toArray, List.set_cons_zero, List.set_cons_succ]
            refine wpAnyH_ready (rs := [19]) (by kernel_rfl) (by simp) (AllReadyH.cons rfl (fun K hK => ?_) AllReadyH.nil)
            go_simp
            refine (HCMP.out _).mono ?_
            rintro e w4 ⟨rfl, b4⟩
            have HD4 := Lib.hid (below_two HD3.out b4); clear b4
            go_wp2_with fail
            refine hK.out _ _ ?_ (fun hHeld => ?_)
            · exact ⟨HXW.out _ HD4.out, HYW.out _ HD4.out⟩
            clear hK K
            try simp only [List.getElem_toArray, List.getElem_cons_succ, List.getElem_cons_zero, Act.put, List.setIfInBounds_toArray, List.set_cons_zero, List.set_cons_succ]
            refine wpAnyH_take (i := 20) (v := ?_) rfl (by kernel_rfl) (by kernel_rfl) (by kernel_rfl) (fun _ _ _ h => h) (Or.inl ⟨by rfl, ?_⟩) (by assumption) ?_
            rotate_left
            · (intro w hSw; (try dsimp only at hSw); go_simp; (try with_reducible rfl))
            try simp only [List.getElem_toArray, List.getElem_cons_succ, List.getElem_cons_zero, Act.put, List.setIfInBounds_toArray, List.set_cons_zero, List.set_cons_succ]
            refine wpAnyH_take (i := 21) (v := ?_) rfl (by kernel_rfl) (by kernel_rfl) (by kernel_rfl) (fun _ _ _ h => h) (Or.inl ⟨by rfl, ?_⟩) (by assumption) ?_
            rotate_left
            · (intro w hSw; (try dsimp only at hSw); go_simp; (try with_reducible rfl))
            try simp only [List.getElem_toArray, List.getElem_cons_succ, List.getElem_cons_zero, Act.put, List.setIfInBounds_toArray, List.set_cons_zero, List.set_cons_succ]
            refine wpAnyH_take (i := 22) (v := ?_) rfl (by kernel_rfl) (by kernel_rfl) (by kernel_rfl) (fun _ _ _ h => h) (Or.inl ⟨by rfl, ?_⟩) (by assumption) ?_
            rotate_left
            · (intro w hSw; (try dsimp only at hSw); go_simp; (try with_reducible rfl))
            try simp only [List.getElem_toArray, List.getElem_cons_succ, List.getElem_cons_zero, Act.put, List.setIfInBounds_toArray, List.set_cons_zero, List.set_cons_succ]
            refine wpAnyH_done (by kernel_rfl) ?_ _
            have HBE := Lib.hid (below_two HB1.out HD4.out)
            go_wp2_with fail
            go_roundw
            case rel => exact ⟨k + 1, by omega, by go_num, HBE, HF⟩
            case measure => simp [intOf]; omega

          · have HF := Lib.hid (HNO.out (by rw [HST2.out, decide_eq_false hz]))
            have hzz : z ≥ 0 := by omega
            refine wp_region_held_drew (S := fun w' => (w'.cell? ⟨b, off + k * 8, none⟩ = some (Value.int .i64 x.mode) ∧ w'.cell? ⟨b, off + k * 8 + 1, none⟩ = some (Value.int .i64 x.round) ∧ w'.cell? ⟨b, off + k * 8 + 2, none⟩ = some (Value.int .i64 x.slot) ∧ w'.cell? ⟨b, off + k * 8 + 3, none⟩ = some (Value.int .i64 x.desc.node) ∧ w'.cell? ⟨b, off + k * 8 + 4, none⟩ = some (Value.int .i64 x.desc.kind) ∧ w'.cell? ⟨b, off + k * 8 + 5, none⟩ = some (Value.int .i64 x.desc.size) ∧ w'.cell? ⟨b, off + k * 8 + 6, none⟩ = some (Value.int .i64 x.desc.dur) ∧ w'.cell? ⟨b, off + k * 8 + 7, none⟩ = some (Value.bool x.desc.chg)) ∧ (w'.cell? ⟨b, off + j * 8, none⟩ = some (Value.int .i64 y.mode) ∧ w'.cell? ⟨b, off + j * 8 + 1, none⟩ = some (Value.int .i64 y.round) ∧ w'.cell? ⟨b, off + j * 8 + 2, none⟩ = some (Value.int .i64 y.slot) ∧ w'.cell? ⟨b, off + j * 8 + 3, none⟩ = some (Value.int .i64 y.desc.node) ∧ w'.cell? ⟨b, off + j * 8 + 4, none⟩ = some (Value.int .i64 y.desc.kind) ∧ w'.cell? ⟨b, off + j * 8 + 5, none⟩ = some (Value.int .i64 y.desc.size) ∧ w'.cell? ⟨b, off + j * 8 + 6, none⟩ = some (Value.int .i64 y.desc.dur) ∧ w'.cell? ⟨b, off + j * 8 + 7, none⟩ = some (Value.bool y.desc.chg))) (by kernel_rfl) (⟨HXW.out _ HD.out, HYW.out _ HD.out⟩) (fun hHeld => ?_)
            generalize w1.drew = w2 at HD hHeld ⊢
            refine wpAnyH_take (i := 0) (v := ?_) rfl (by kernel_rfl) (by kernel_rfl) (by kernel_rfl) (fun _ _ _ h => h) (Or.inl ⟨by rfl, ?_⟩) (by assumption) ?_
            rotate_left
            · (intro w hSw; (try dsimp only at hSw); go_simp; (try with_reducible rfl))
            try simp only [List.getElem_toArray, List.getElem_cons_succ, List.getElem_cons_zero, Act.put, List.setIfInBounds_toArray, List.set_cons_zero, List.set_cons_succ]
            refine wpAnyH_take (i := 1) (v := ?_) rfl (by kernel_rfl) (by kernel_rfl) (by kernel_rfl) (fun _ _ _ h => h) (Or.inl ⟨by rfl, ?_⟩) (by assumption) ?_
            rotate_left
            · (intro w hSw; (try dsimp only at hSw); go_simp; (try with_reducible rfl))
            try simp only [List.getElem_toArray, List.getElem_cons_succ, List.getElem_cons_zero, Act.put, List.setIfInBounds_toArray, List.set_cons_zero, List.set_cons_succ]
            refine wpAnyH_take (i := 2) (v := ?_) rfl (by kernel_rfl) (by kernel_rfl) (by kernel_rfl) (fun _ _ _ h => h) (Or.inl ⟨by rfl, ?_⟩) (by assumption) ?_
            rotate_left
            · (intro w hSw; (try dsimp only at hSw); go_simp; (try with_reducible rfl))
            try simp only [List.getElem_toArray, List.getElem_cons_succ, List.getElem_cons_zero, Act.put, List.setIfInBounds_toArray, List.set_cons_zero, List.set_cons_succ]
            refine wpAnyH_take (i := 3) (v := ?_) rfl (by kernel_rfl) (by kernel_rfl) (by kernel_rfl) (fun _ _ _ h => h) (Or.inl ⟨by rfl, ?_⟩) (by assumption) ?_
            rotate_left
            · (intro w hSw; (try dsimp only at hSw); go_simp; (try with_reducible rfl))
            try simp only [List.getElem_toArray, List.getElem_cons_succ, List.getElem_cons_zero, Act.put, List.setIfInBounds_toArray, List.set_cons_zero, List.set_cons_succ]
            refine wpAnyH_ready (rs := [4]) (by kernel_rfl) (by simp) (AllReadyH.cons rfl (fun K hK => ?_) AllReadyH.nil)
            go_simp
            refine (HI.out _).mono ?_
            rintro e w3 ⟨rfl, b3⟩
            rw [hv]
            have HD3 := Lib.hid (below_two HD.out b3); clear b3
            go_wp2_with fail
            refine hK.out _ _ ?_ (fun hHeld => ?_)
            · exact ⟨HXW.out _ HD3.out, HYW.out _ HD3.out⟩
            clear hK K
            try simp only [List.getElem_toArray, List.getElem_cons_succ, List.getElem_cons_zero, Act.put, List.setIfInBounds_toArray, List.set_cons_zero, List.set_cons_succ]
            refine wpAnyH_take (i := 5) (v := ?_) rfl (by kernel_rfl) (by kernel_rfl) (by kernel_rfl) (fun _ _ _ h => h) (Or.inl ⟨by rfl, ?_⟩) (by assumption) ?_
            rotate_left
            · (intro w hSw; (try dsimp only at hSw); go_simp; (try with_reducible rfl))
            try simp only [List.getElem_toArray, List.getElem_cons_succ, List.getElem_cons_zero, Act.put, List.setIfInBounds_toArray, List.set_cons_zero, List.set_cons_succ]
            refine wpAnyH_take (i := 6) (v := ?_) rfl (by kernel_rfl) (by kernel_rfl) (by kernel_rfl) (fun _ _ _ h => h) (Or.inl ⟨by rfl, ?_⟩) (by assumption) ?_
            rotate_left
            · (intro w hSw; (try dsimp only at hSw); go_simp; (try with_reducible rfl))
            try simp only [List.getElem_toArray, List.getElem_cons_succ, List.getElem_cons_zero, Act.put, List.setIfInBounds_toArray, List.set_cons_zero, List.set_cons_succ]
            refine wpAnyH_take (i := 7) (v := ?_) rfl (by kernel_rfl) (by kernel_rfl) (by kernel_rfl) (fun _ _ _ h => h) (Or.inl ⟨by rfl, ?_⟩) (by assumption) ?_
            rotate_left
            · (intro w hSw; (try dsimp only at hSw); go_simp; (try with_reducible rfl))
            try simp only [List.getElem_toArray, List.getElem_cons_succ, List.getElem_cons_zero, Act.put, List.setIfInBounds_toArray, List.set_cons_zero, List.set_cons_succ]
            refine wpAnyH_take (i := 8) (v := ?_) rfl (by kernel_rfl) (by kernel_rfl) (by kernel_rfl) (fun _ _ _ h => h) (Or.inl ⟨by rfl, ?_⟩) (by assumption) ?_
            rotate_left
            · (intro w hSw; (try dsimp only at hSw); go_simp; (try with_reducible rfl))
            try simp only [List.getElem_toArray, List.getElem_cons_succ, List.getElem_cons_zero, Act.put, List.setIfInBounds_toArray, List.set_cons_zero, List.set_cons_succ]
            refine wpAnyH_take (i := 9) (v := ?_) rfl (by kernel_rfl) (by kernel_rfl) (by kernel_rfl) (fun _ _ _ h => h) (Or.inl ⟨by rfl, ?_⟩) (by assumption) ?_
            rotate_left
            · (intro w hSw; (try dsimp only at hSw); go_simp; (try with_reducible rfl))
            try simp only [List.getElem_toArray, List.getElem_cons_succ, List.getElem_cons_zero, Act.put, List.setIfInBounds_toArray, List.set_cons_zero, List.set_cons_succ]
            refine wpAnyH_take (i := 10) (v := ?_) rfl (by kernel_rfl) (by kernel_rfl) (by kernel_rfl) (fun _ _ _ h => h) (Or.inl ⟨by rfl, ?_⟩) (by assumption) ?_
            rotate_left
            · (intro w hSw; (try dsimp only at hSw); go_simp; (try with_reducible rfl))
            try simp only [List.getElem_toArray, List.getElem_cons_succ, List.getElem_cons_zero, Act.put, List.setIfInBounds_toArray, List.set_cons_zero, List.set_cons_succ]
            refine wpAnyH_take (i := 11) (v := ?_) rfl (by kernel_rfl) (by kernel_rfl) (by kernel_rfl) (fun _ _ _ h => h) (Or.inl ⟨by rfl, ?_⟩) (by assumption) ?_
            rotate_left
            · (intro w hSw; (try dsimp only at hSw); go_simp; (try with_reducible rfl))
            try simp only [List.getElem_toArray, List.getElem_cons_succ, List.getElem_cons_zero, Act.put, List.setIfInBounds_toArray, List.set_cons_zero, List.set_cons_succ]
            refine wpAnyH_take (i := 12) (v := ?_) rfl (by kernel_rfl) (by kernel_rfl) (by kernel_rfl) (fun _ _ _ h => h) (Or.inl ⟨by rfl, ?_⟩) (by assumption) ?_
            rotate_left
            · (intro w hSw; (try dsimp only at hSw); go_simp; (try with_reducible rfl))
            try simp only [List.getElem_toArray, List.getElem_cons_succ, List.getElem_cons_zero, Act.put, List.setIfInBounds_toArray, List.set_cons_zero, List.set_cons_succ]
            refine wpAnyH_take (i := 13) (v := ?_) rfl (by kernel_rfl) (by kernel_rfl) (by kernel_rfl) (fun _ _ _ h => h) (Or.inl ⟨by rfl, ?_⟩) (by assumption) ?_
            rotate_left
            · (intro w hSw; (try dsimp only at hSw); go_simp; (try with_reducible rfl))
            try simp only [List.getElem_toArray, List.getElem_cons_succ, List.getElem_cons_zero, Act.put, List.setIfInBounds_toArray, List.set_cons_zero, List.set_cons_succ]
            refine wpAnyH_take (i := 14) (v := ?_) rfl (by kernel_rfl) (by kernel_rfl) (by kernel_rfl) (fun _ _ _ h => h) (Or.inl ⟨by rfl, ?_⟩) (by assumption) ?_
            rotate_left
            · (intro w hSw; (try dsimp only at hSw); go_simp; (try with_reducible rfl))
            try simp only [List.getElem_toArray, List.getElem_cons_succ, List.getElem_cons_zero, Act.put, List.setIfInBounds_toArray, List.set_cons_zero, List.set_cons_succ]
            refine wpAnyH_take (i := 15) (v := ?_) rfl (by kernel_rfl) (by kernel_rfl) (by kernel_rfl) (fun _ _ _ h => h) (Or.inl ⟨by rfl, ?_⟩) (by assumption) ?_
            rotate_left
            · (intro w hSw; (try dsimp only at hSw); go_simp; (try with_reducible rfl))
            try simp only [List.getElem_toArray, List.getElem_cons_succ, List.getElem_cons_zero, Act.put, List.setIfInBounds_toArray, List.set_cons_zero, List.set_cons_succ]
            refine wpAnyH_take (i := 16) (v := ?_) rfl (by kernel_rfl) (by kernel_rfl) (by kernel_rfl) (fun _ _ _ h => h) (Or.inl ⟨by rfl, ?_⟩) (by assumption) ?_
            rotate_left
            · (intro w hSw; (try dsimp only at hSw); go_simp; (try with_reducible rfl))
            try simp only [List.getElem_toArray, List.getElem_cons_succ, List.getElem_cons_zero, Act.put, List.setIfInBounds_toArray, List.set_cons_zero, List.set_cons_succ]
            refine wpAnyH_take (i := 17) (v := ?_) rfl (by kernel_rfl) (by kernel_rfl) (by kernel_rfl) (fun _ _ _ h => h) (Or.inl ⟨by rfl, ?_⟩) (by assumption) ?_
            rotate_left
            · (intro w hSw; (try dsimp only at hSw); go_simp; (try with_reducible rfl))
            try simp only [List.getElem_toArray, List.getElem_cons_succ, List.getElem_cons_zero, Act.put, List.setIfInBounds_toArray, List.set_cons_zero, List.set_cons_succ]
            refine wpAnyH_take (i := 18) (v := ?_) rfl (by kernel_rfl) (by kernel_rfl) (by kernel_rfl) (fun _ _ _ h => h) (Or.inl ⟨by rfl, ?_⟩) (by assumption) ?_
            rotate_left
            · (intro w hSw; (try dsimp only at hSw); go_simp; (try with_reducible rfl))
            try simp only [List.getElem_toArray, List.getElem_cons_succ, List.getElem_cons_zero, Act.put, List.setIfInBounds_toArray, List.set_cons_zero, List.set_cons_succ]
            refine wpAnyH_ready (rs := [19]) (by kernel_rfl) (by simp) (AllReadyH.cons rfl (fun K hK => ?_) AllReadyH.nil)
            go_simp
            refine (HCMP.out _).mono ?_
            rintro e w4 ⟨rfl, b4⟩
            have HD4 := Lib.hid (below_two HD3.out b4); clear b4
            go_wp2_with fail
            refine hK.out _ _ ?_ (fun hHeld => ?_)
            · exact ⟨HXW.out _ HD4.out, HYW.out _ HD4.out⟩
            clear hK K
            try simp only [List.getElem_toArray, List.getElem_cons_succ, List.getElem_cons_zero, Act.put, List.setIfInBounds_toArray, List.set_cons_zero, List.set_cons_succ]
            refine wpAnyH_take (i := 20) (v := ?_) rfl (by kernel_rfl) (by kernel_rfl) (by kernel_rfl) (fun _ _ _ h => h) (Or.inl ⟨by rfl, ?_⟩) (by assumption) ?_
            rotate_left
            · (intro w hSw; (try dsimp only at hSw); go_simp; (try with_reducible rfl))
            try simp only [List.getElem_toArray, List.getElem_cons_succ, List.getElem_cons_zero, Act.put, List.setIfInBounds_toArray, List.set_cons_zero, List.set_cons_succ]
            refine wpAnyH_take (i := 21) (v := ?_) rfl (by kernel_rfl) (by kernel_rfl) (by kernel_rfl) (fun _ _ _ h => h) (Or.inl ⟨by rfl, ?_⟩) (by assumption) ?_
            rotate_left
            · (intro w hSw; (try dsimp only at hSw); go_simp; (try with_reducible rfl))
            try simp only [List.getElem_toArray, List.getElem_cons_succ, List.getElem_cons_zero, Act.put, List.setIfInBounds_toArray, List.set_cons_zero, List.set_cons_succ]
            refine wpAnyH_take (i := 22) (v := ?_) rfl (by kernel_rfl) (by kernel_rfl) (by kernel_rfl) (fun _ _ _ h => h) (Or.inl ⟨by rfl, ?_⟩) (by assumption) ?_
            rotate_left
            · (intro w hSw; (try dsimp only at hSw); go_simp; (try with_reducible rfl))
            try simp only [List.getElem_toArray, List.getElem_cons_succ, List.getElem_cons_zero, Act.put, List.setIfInBounds_toArray, List.set_cons_zero, List.set_cons_succ]
            refine wpAnyH_done (by kernel_rfl) ?_ _
            have HBE := Lib.hid (below_two HB1.out HD4.out)
            go_wp2_with fail
            go_ret
            rw [HF.out]
            exact ⟨rfl, HBE.out⟩
    · have hkn : k = n := by omega
      subst hkn
      have HF := Lib.hid (isSls_steps.2 ⟨by rw [HL.out]; exact HN.out, by rw [HL.out]; exact hall.out⟩)
      go_wp2_with fail
      go_ret
      rw [HF.out]
      exact ⟨rfl, hb.out⟩
end
end

section
section
end
section
open Go.RowKit
def dsVal (d : Ds) : Value := .agg #[.int .i64 d.node, .int .i64 d.kind, .int .i64 d.size, .int .i64 d.dur, .bool d.chg]
end
section
open Go.RowKit
section
variable {w W W' : World} {T b p : Nat} {rest rest' : List Int} {x : Sl}
theorem SlBk.set0 (h : SlBk T w b x) (y : Int) : SlBk T (w.setCell ⟨b, 0, none⟩ (.int .i64 y)) b ⟨y, x.round, x.slot, ⟨x.desc.node, x.desc.kind, x.desc.size, x.desc.dur, x.desc.chg⟩⟩ := by
  have := heap_setCell_same w b 0 _ _ (.int .i64 y) h
  simpa [SlBk] using this
theorem SlBk.set1 (h : SlBk T w b x) (y : Int) : SlBk T (w.setCell ⟨b, 1, none⟩ (.int .i64 y)) b ⟨x.mode, y, x.slot, ⟨x.desc.node, x.desc.kind, x.desc.size, x.desc.dur, x.desc.chg⟩⟩ := by
  have := heap_setCell_same w b 1 _ _ (.int .i64 y) h
  simpa [SlBk] using this
theorem SlBk.set2 (h : SlBk T w b x) (y : Int) : SlBk T (w.setCell ⟨b, 2, none⟩ (.int .i64 y)) b ⟨x.mode, x.round, y, ⟨x.desc.node, x.desc.kind, x.desc.size, x.desc.dur, x.desc.chg⟩⟩ := by
  have := heap_setCell_same w b 2 _ _ (.int .i64 y) h
  simpa [SlBk] using this
theorem SlBk.set3 (h : SlBk T w b x) (y : Int) : SlBk T (w.setCell ⟨b, 3, none⟩ (.int .i64 y)) b ⟨x.mode, x.round, x.slot, ⟨y, x.desc.kind, x.desc.size, x.desc.dur, x.desc.chg⟩⟩ := by
  have := heap_setCell_same w b 3 _ _ (.int .i64 y) h
  simpa [SlBk] using this
theorem SlBk.set4 (h : SlBk T w b x) (y : Int) : SlBk T (w.setCell ⟨b, 4, none⟩ (.int .i64 y)) b ⟨x.mode, x.round, x.slot, ⟨x.desc.node, y, x.desc.size, x.desc.dur, x.desc.chg⟩⟩ := by
  have := heap_setCell_same w b 4 _ _ (.int .i64 y) h
  simpa [SlBk] using this
theorem SlBk.set5 (h : SlBk T w b x) (y : Int) : SlBk T (w.setCell ⟨b, 5, none⟩ (.int .i64 y)) b ⟨x.mode, x.round, x.slot, ⟨x.desc.node, x.desc.kind, y, x.desc.dur, x.desc.chg⟩⟩ := by
  have := heap_setCell_same w b 5 _ _ (.int .i64 y) h
  simpa [SlBk] using this
theorem SlBk.set6 (h : SlBk T w b x) (y : Int) : SlBk T (w.setCell ⟨b, 6, none⟩ (.int .i64 y)) b ⟨x.mode, x.round, x.slot, ⟨x.desc.node, x.desc.kind, x.desc.size, y, x.desc.chg⟩⟩ := by
  have := heap_setCell_same w b 6 _ _ (.int .i64 y) h
  simpa [SlBk] using this
theorem SlBk.set7 (h : SlBk T w b x) (y : Bool) : SlBk T (w.setCell ⟨b, 7, none⟩ (.bool y)) b ⟨x.mode, x.round, x.slot, ⟨x.desc.node, x.desc.kind, x.desc.size, x.desc.dur, y⟩⟩ := by
  have := heap_setCell_same w b 7 _ _ (.bool y) h
  simpa [SlBk] using this
theorem SlBk.put (h : SlBk T w b x) (y : Sl) : SlBk T (setSl w b 0 y) b y := by
  have := ((((((((h.set0 y.mode).set1 y.round).set2 y.slot).set3 y.desc.node).set4 y.desc.kind).set5 y.desc.size).set6 y.desc.dur).set7 y.desc.chg)
  exact this
end
end
section
open Go.RowKit
end
end

section
section
open Go.RowKit
def szL (t : List Sl) (m : Int) : Int := if m < t.length then -1 else m - t.length
theorem sl_neq (x : Sl) (w : World) : (binOp .neq 74 (.agg #[.int .i64 x.mode, .int .i64 x.round, .int .i64 x.slot, .int .i64 x.desc.node, .int .i64 x.desc.kind, .int .i64 x.desc.size, .int .i64 x.desc.dur, .bool x.desc.chg]) (.agg #[.int .i64 x.mode, .int .i64 x.round, .int .i64 x.slot, .int .i64 x.desc.node, .int .i64 x.desc.kind, .int .i64 x.desc.size, .int .i64 x.desc.dur, .bool x.desc.chg])).run Tryz.prog w = .ok (.bool false) w := by
  rw [run_neq_struct]
  have h : (Op.equalIn 10000 74 (.agg #[.int .i64 x.mode, .int .i64 x.round, .int .i64 x.slot, .int .i64 x.desc.node, .int .i64 x.desc.kind, .int .i64 x.desc.size, .int .i64 x.desc.dur, .bool x.desc.chg]) (.agg #[.int .i64 x.mode, .int .i64 x.round, .int .i64 x.slot, .int .i64 x.desc.node, .int .i64 x.desc.kind, .int .i64 x.desc.size, .int .i64 x.desc.dur, .bool x.desc.chg])).run Tryz.prog w = .ok true w := by
    rw [run_equalIn_agg w 9999 _ _ _ (by kernel_rfl) (by kernel_rfl)]
    simp only [Program.fieldsOf, Tryz.underlying74, Op.eqFields]
    simp [go_sem]
  rw [h]; rfl
set_option maxHeartbeats 1000000 in
set_option maxRecDepth 100000 in
set_option linter.unusedSimpArgs false in
theorem likeSlots_yes (ao bo : Option Addr) (n c d : Nat) (t : List Sl) (w : World) (hx : RdE w ao n t) (hy : RdE w bo n t) (hn : n ≤ 9223372036854775807) (hc : n ≤ c) (hd : n ≤ d) :
    Calls Tryz.prog 66 #[.slice ao n c, .slice bo n d] w fun e w' => e = .returned (.bool true) ∧ Below w.heap.size w w' := by
  have HX := Lib.hid hx; have HY := Lib.hid hy; clear hx hy
  have hne : ((n : Int) != (n : Int)) = false := by simp
  go_enter Tryz.func66, Tryz.ntmps66
  go_wp2_with fail
  clear hne
  go_loopw [5] (fun i wr => ∃ k : Nat, k ≤ n ∧ i = .int .i64 k ∧ Below w.heap.size w wr) (fun i _ => n - (intOf i).toNat)
  case atStart => exact ⟨0, Nat.zero_le _, rfl, Below.refl _ _⟩
  case round =>
    obtain ⟨k, hk, rfl, hb⟩ := hrel
    by_cases hlt : k < n
    · obtain ⟨g, off, rfl, hg, hx⟩ := HX.out.at hlt
      obtain ⟨g', off', rfl, hg', hy⟩ := HY.out.at hlt
      replace hx := hx.below hb hg
      replace hy := hy.below hb hg'
      have HB := Lib.hid hb; clear hb
      obtain ⟨x, hxe⟩ : ∃ x, x = slOf t k := ⟨_, rfl⟩
      rw [← hxe] at hx hy
      clear hxe
      have HXW := Lib.hid (fun W (hW : Below wr.heap.size wr W) => (hx.below hW hx.lt).all8)
      have HYW := Lib.hid (fun W (hW : Below wr.heap.size wr W) => (hy.below hW hy.lt).all8)
      have HD := Lib.hid (show Below wr.heap.size wr wr.drew from Below.drew (Below.refl _ _))
      clear hx hy hg hg'
      have hneq : ∀ W, (binOp .neq 74 (.agg #[.int .i64 x.mode, .int .i64 x.round, .int .i64 x.slot, .int .i64 x.desc.node, .int .i64 x.desc.kind, .int .i64 x.desc.size, .int .i64 x.desc.dur, .bool x.desc.chg]) (.agg #[.int .i64 x.mode, .int .i64 x.round, .int .i64 x.slot, .int .i64 x.desc.node, .int .i64 x.desc.kind, .int .i64 x.desc.size, .int .i64 x.desc.dur, .bool x.desc.chg])).run Tryz.prog W = .ok (.bool false) W := fun W => sl_neq x W
      go_upto_region 6 with fail
      refine wp_region_held_drew (S := fun w' => (w'.cell? ⟨g, off + k * 8, none⟩ = some (Value.int .i64 x.mode) ∧ w'.cell? ⟨g, off + k * 8 + 1, none⟩ = some (Value.int .i64 x.round) ∧ w'.cell? ⟨g, off + k * 8 + 2, none⟩ = some (Value.int .i64 x.slot) ∧ w'.cell? ⟨g, off + k * 8 + 3, none⟩ = some (Value.int .i64 x.desc.node) ∧ w'.cell? ⟨g, off + k * 8 + 4, none⟩ = some (Value.int .i64 x.desc.kind) ∧ w'.cell? ⟨g, off + k * 8 + 5, none⟩ = some (Value.int .i64 x.desc.size) ∧ w'.cell? ⟨g, off + k * 8 + 6, none⟩ = some (Value.int .i64 x.desc.dur) ∧ w'.cell? ⟨g, off + k * 8 + 7, none⟩ = some (Value.bool x.desc.chg)) ∧ (w'.cell? ⟨g', off' + k * 8, none⟩ = some (Value.int .i64 x.mode) ∧ w'.cell? ⟨g', off' + k * 8 + 1, none⟩ = some (Value.int .i64 x.round) ∧ w'.cell? ⟨g', off' + k * 8 + 2, none⟩ = some (Value.int .i64 x.slot) ∧ w'.cell? ⟨g', off' + k * 8 + 3, none⟩ = some (Value.int .i64 x.desc.node) ∧ w'.cell? ⟨g', off' + k * 8 + 4, none⟩ = some (Value.int .i64 x.desc.kind) ∧ w'.cell? ⟨g', off' + k * 8 + 5, none⟩ = some (Value.int .i64 x.desc.size) ∧ w'.cell? ⟨g', off' + k * 8 + 6, none⟩ = some (Value.int .i64 x.desc.dur) ∧ w'.cell? ⟨g', off' + k * 8 + 7, none⟩ = some (Value.bool x.desc.chg))) (by kernel_rfl) (⟨HXW.out _ HD.out, HYW.out _ HD.out⟩) (fun hHeld => ?_)
      generalize wr.drew = w1 at HD hHeld ⊢
      refine wpAnyH_take (i := 0) (v := ?_) rfl (by kernel_rfl) (by kernel_rfl) (by kernel_rfl) (fun _ _ _ h => h) (Or.inl ⟨by rfl, ?_⟩) (by assumption) ?_
      rotate_left
      · (intro w hSw; (try dsimp only at hSw); go_simp; (try with_reducible rfl))
      try simp only [List.getElem_toArray, List.getElem_cons_succ, List.getElem_cons_zero, Act.put, List.setIfInBounds_toArray, List.set_cons_zero, List.set_cons_succ]
      refine wpAnyH_take (i := 1) (v := ?_) rfl (by kernel_rfl) (by kernel_rfl) (by kernel_rfl) (fun _ _ _ h => h) (Or.inl ⟨by rfl, ?_⟩) (by assumption) ?_
      rotate_left
      · (intro w hSw; (try dsimp only at hSw); go_simp; (try with_reducible rfl))
      try simp only [List.getElem_toArray, List.getElem_cons_succ, List.getElem_cons_zero, Act.put, List.setIfInBounds_toArray, List.set_cons_zero, List.set_cons_succ]
      refine wpAnyH_take (i := 2) (v := ?_) rfl (by kernel_rfl) (by kernel_rfl) (by kernel_rfl) (fun _ _ _ h => h) (Or.inl ⟨by rfl, ?_⟩) (by assumption) ?_
      rotate_left
      · (intro w hSw; (try dsimp only at hSw); go_simp; (try with_reducible rfl))
      try simp only [List.getElem_toArray, List.getElem_cons_succ, List.getElem_cons_zero, Act.put, List.setIfInBounds_toArray, List.set_cons_zero, List.set_cons_succ]
      refine wpAnyH_take (i := 3) (v := ?_) rfl (by kernel_rfl) (by kernel_rfl) (by kernel_rfl) (fun _ _ _ h => h) (Or.inl ⟨by rfl, ?_⟩) (by assumption) ?_
      rotate_left
      · (intro w hSw; (try dsimp only at hSw); go_simp; (try with_reducible rfl))
      try simp only [List.getElem_toArray, List.getElem_cons_succ, List.getElem_cons_zero, Act.put, List.setIfInBounds_toArray, List.set_cons_zero, List.set_cons_succ]
      refine wpAnyH_take (i := 4) (v := ?_) rfl (by kernel_rfl) (by kernel_rfl) (by kernel_rfl) (fun _ _ _ h => h) (Or.inl ⟨by rfl, ?_⟩) (by assumption) ?_
      rotate_left
      · (intro w hSw; (try dsimp only at hSw); go_simp; (try with_reducible rfl))
      try simp only [List.getElem_toArray, List.getElem_cons_succ, List.getElem_cons_zero, Act.put, List.setIfInBounds_toArray, List.set_cons_zero, List.set_cons_succ]
      refine wpAnyH_take (i := 5) (v := ?_) rfl (by kernel_rfl) (by kernel_rfl) (by kernel_rfl) (fun _ _ _ h => h) (Or.inl ⟨by rfl, ?_⟩) (by assumption) ?_
      rotate_left
      · (intro w hSw; (try dsimp only at hSw); go_simp; (try with_reducible rfl))
      try simp only [List.getElem_toArray, List.getElem_cons_succ, List.getElem_cons_zero, Act.put, List.setIfInBounds_toArray, List.set_cons_zero, List.set_cons_succ]
      refine wpAnyH_take (i := 6) (v := ?_) rfl (by kernel_rfl) (by kernel_rfl) (by kernel_rfl) (fun _ _ _ h => h) (Or.inl ⟨by rfl, ?_⟩) (by assumption) ?_
      rotate_left
      · (intro w hSw; (try dsimp only at hSw); go_simp; (try with_reducible rfl))
      try simp only [List.getElem_toArray, List.getElem_cons_succ, List.getElem_cons_zero, Act.put, List.setIfInBounds_toArray, List.set_cons_zero, List.set_cons_succ]
      refine wpAnyH_take (i := 7) (v := ?_) rfl (by kernel_rfl) (by kernel_rfl) (by kernel_rfl) (fun _ _ _ h => h) (Or.inl ⟨by rfl, ?_⟩) (by assumption) ?_
      rotate_left
      · (intro w hSw; (try dsimp only at hSw); go_simp; (try with_reducible rfl))
      try simp only [List.getElem_toArray, List.getElem_cons_succ, List.getElem_cons_zero, Act.put, List.setIfInBounds_toArray, List.set_cons_zero, List.set_cons_succ]
      refine wpAnyH_take (i := 8) (v := ?_) rfl (by kernel_rfl) (by kernel_rfl) (by kernel_rfl) (fun _ _ _ h => h) (Or.inl ⟨by rfl, ?_⟩) (by assumption) ?_
      rotate_left
      · (intro w hSw; (try dsimp only at hSw); go_simp; (try with_reducible rfl))
      try simp only [List.getElem_toArray, List.getElem_cons_succ, List.getElem_cons_zero, Act.put, List.setIfInBounds_toArray, List.set_cons_zero, List.set_cons_succ]
      refine wpAnyH_done (by kernel_rfl) ?_ _
      have HBE := Lib.hid (below_two HB.out HD.out)
      go_wp2_with fail
      go_roundw
      case rel => exact ⟨k + 1, by omega, by go_num, HBE.out⟩
      case measure => simp [intOf]; omega
    · have hkn : k = n := by omega
      subst hkn
      have HB := Lib.hid hb; clear hb
      go_wp2_with fail
      go_ret
      exact ⟨rfl, HB.out⟩
end
section
open Go
end
section
open Go.RowKit
end
end

section
section
open Go.RowKit
def slIn (x : Sl) : Prop := (0 ≤ x.mode ∧ x.mode ≤ 15) ∧ (0 ≤ x.round ∧ x.round ≤ 15) ∧ descIn x.desc
theorem slIn_of {x : Sl} (h : isSl x = true) : slIn x := by
  obtain ⟨h1, h2, -, h4⟩ := isSl_iff.1 h
  exact ⟨h1, ⟨h2.1, by omega⟩, desc_in h4⟩
theorem slIn_all {t : List Sl} (h : isSls t = true) : ∀ x ∈ t, slIn x := fun x hx => slIn_of ((isSls_iff.1 h).2.1 x hx)
end
section
open Go.RowKit
end
end

section
section
open Go.RowKit Go.Maps
def keyV (m r s : Int) : Value := .agg #[.int .i64 m, .int .i64 r, .int .i64 s]
def keyL (m r s : Int) : Lit := .string (keyBytes [.int .i64 m, .int .i64 r, .int .i64 s])
def wfk (m r s : Int) : Prop := (Lit.int .i64 m).wf = true ∧ (Lit.int .i64 r).wf = true ∧ (Lit.int .i64 s).wf = true
theorem keyS_laid : laidOutB Tryz.prog = true := by kernel_rfl
theorem keyS_law : Keyed Tryz.prog 128 := Keyed.of_law (deep_law_laid keyS_laid (m := 3) (by omega) (of_decide_eq_true (by kernel_rfl)) (by kernel_rfl) (by kernel_rfl))
theorem keyOf_slot {m r s : Int} (h : wfk m r s) : keyOf Tryz.prog 128 (keyV m r s) = some (keyL m r s) := by
  obtain ⟨h1, h2, h3⟩ := h
  have hu := Tryz.underlying128
  have hi := Tryz.underlying2
  have hk : Tryz.prog.keyType 128 = true := by kernel_rfl
  have hf : (keyV m r s).formed Tryz.prog 128 = true := by kernel_rfl
  have hl : ∀ d, Tryz.prog.keyLits (d + 1) 2 [.int .i64 m] = some [.int .i64 m] := fun d => by simp [Program.keyLits, hi, h1]
  have hl2 : ∀ d, Tryz.prog.keyLits (d + 1) 2 [.int .i64 r] = some [.int .i64 r] := fun d => by simp [Program.keyLits, hi, h2]
  have hl3 : ∀ d, Tryz.prog.keyLits (d + 1) 2 [.int .i64 s] = some [.int .i64 s] := fun d => by simp [Program.keyLits, hi, h3]
  have hc : Tryz.prog.cellsOf 2 = 1 := by kernel_rfl
  have hc3 : Tryz.prog.cellsOf 128 = 3 := by kernel_rfl
  have hpos : 0 < Tryz.prog.types.size := of_decide_eq_true (by kernel_rfl)
  have hs : ∃ q, Tryz.prog.types.size = q + 1 := ⟨Tryz.prog.types.size - 1, by omega⟩
  obtain ⟨q, hq⟩ := hs
  unfold keyOf
  rw [hu]
  simp only [hk, hf, Bool.and_self, if_true, hq]
  have : Tryz.prog.keyLits (q + 1 + 1) 128 (keyV m r s).cells.toList = some [.int .i64 m, .int .i64 r, .int .i64 s] := by
    rw [show (keyV m r s).cells.toList = [.int .i64 m, .int .i64 r, .int .i64 s] from rfl]
    unfold Program.keyLits
    rw [hu]
    simp [hc, hc3, hl, hl2, hl3]
  rw [this]
  rfl
def selfElem (v : Value) : Option (DataW Value × List MemPlace) := some (.held v, [])
def dsZ : Value := dsVal Ds.zero
def SlotMap (w : World) (b n : Nat) (f : Int → Int → Int → Option Ds) : Prop :=
  ∃ D : DataW Value, w.ownsMap Tryz.prog 128 selfElem b n D ∧ ∀ m r s, wfk m r s → Maps.has D (keyL m r s) = (f m r s).isSome ∧ ∀ d, f m r s = some d → D.atKey (keyL m r s) (.held dsZ) = .held (dsVal d)
theorem keyL_inj {m r s m' r' s' : Int} (h : wfk m r s) (h' : wfk m' r' s') (e : keyL m r s = keyL m' r' s') : m = m' ∧ r = r' ∧ s = s' := by
  have h1 := keyOf_slot h
  rw [e] at h1
  have := keyS_law.inj h1 (keyOf_slot h')
  unfold keyV at this
  simpa using this
section
variable {w w' : World} {b n : Nat} {f : Int → Int → Int → Option Ds}
theorem slotMap_made (w : World) : SlotMap (w.alloc (.map #[] 0)) w.heap.size 0 (fun _ _ _ => none) :=
  ⟨_, World.ownsMap_made w _ _ _, fun m r s _ => ⟨rfl, fun y h => by cases h⟩⟩
theorem SlotMap.kept {row : Option Nat} (h : SlotMap w b n f) (hg : w.grownBy w' row) (hne : some b ≠ row) : SlotMap w' b n f := by
  obtain ⟨D, h1, h2⟩ := h
  exact ⟨D, h1.kept hg hne, h2⟩
theorem SlotMap.below (h : SlotMap w b n f) (hb : Below w.heap.size w w') : SlotMap w' b n f := h.kept (row := none) ⟨hb.os, hb.tape, hb.output, hb.size, fun i hi _ => hb.block i hi⟩ (by simp)
theorem SlotMap.lt (h : SlotMap w b n f) : b < w.heap.size := by obtain ⟨D, h1, _⟩ := h; exact h1.lt
end
theorem makeSlotMap (q : IntKind) (x : Int) (w : World) :
    (Instr.makeMap 125 (some (.int q x))).run Tryz.prog w = .ok (.map (some w.heap.size)) (w.alloc (.map #[] 0)) := by
  simp [Instr.makeMap, run_underlying Tryz.underlying125, Result.andThen]; rfl
theorem zeroDs (w : World) : (zeroValue 72).run Tryz.prog w = .ok dsZ w := by kernel_rfl
section
variable (w : World) {ops : Array Oper} {rest : List Oper} {o : Oper} {a : Act} {Q : Exit → Act → World → Prop} {K : Act → World → Prop}
theorem lookS_op (m x : Operand) (hop : o.op = Op.lookup 125 m x true) (b n : Nat) (f : Int → Int → Int → Option Ds) (hm : a.eval m = .map (some b)) (hown : SlotMap w b n f) (k1 k2 k3 : Int) (hx : a.eval x = keyV k1 k2 k3) (hwf : wfk k1 k2 k3)
    (h : K (a.put o.dst (.tuple #[dsVal ((f k1 k2 k3).getD Ds.zero), .bool (f k1 k2 k3).isSome])) w) : o.wp Tryz.prog a w K Q := by
  obtain ⟨D, h1, h2⟩ := hown
  obtain ⟨v, ps, hrun, hv⟩ := h1.look_ok keyS_law Tryz.underlying125 (zeroDs w) (zd := .held dsZ) (zp := []) rfl (keyOf_slot hwf)
  obtain ⟨h3, h4⟩ := h2 k1 k2 k3 hwf
  have hv2 : v = dsVal ((f k1 k2 k3).getD Ds.zero) := by
    unfold selfElem at hv
    have e := (Prod.mk.inj (Option.some.inj hv)).1
    rcases hf : f k1 k2 k3 with _ | d
    · rw [hf] at h3
      rw [atKey_of_not_has h3] at e
      cases e
      rfl
    · rw [h4 d hf] at e
      cases e
      rfl
  rw [h3, hv2] at hrun
  unfold Oper.wp
  simp [execOp, hop, hm, hx, hrun, Result.andThen]
  exact h
theorem lookS (hgd : o.guard = none) (m x : Operand) (hop : o.op = Op.lookup 125 m x true) (b n : Nat) (f : Int → Int → Int → Option Ds) (hm : a.eval m = .map (some b)) (hown : SlotMap w b n f) (k1 k2 k3 : Int) (hx : a.eval x = keyV k1 k2 k3) (hwf : wfk k1 k2 k3)
    (h : wpList Tryz.prog ops Q rest (a.put o.dst (.tuple #[dsVal ((f k1 k2 k3).getD Ds.zero), .bool (f k1 k2 k3).isSome])) w) : wpList Tryz.prog ops Q (o :: rest) a w :=
  wpList_plain hgd fun _ hK => lookS_op w m x hop b n f hm hown k1 k2 k3 hx hwf (hK _ _ h)
def updS (f : Int → Int → Int → Option Ds) (k1 k2 k3 : Int) (d : Ds) : Int → Int → Int → Option Ds := fun m r s => if m = k1 ∧ r = k2 ∧ s = k3 then some d else f m r s
theorem storeS_op (m x v : Operand) (hop : o.op = Op.mapUpdate 125 m x v) (b n : Nat) (f : Int → Int → Int → Option Ds) (hm : a.eval m = .map (some b)) (hown : SlotMap w b n f) (hn : n ≤ 4294967296) (k1 k2 k3 : Int) (d : Ds) (hx : a.eval x = keyV k1 k2 k3) (hv : a.eval v = dsVal d) (hwf : wfk k1 k2 k3)
    (h : ∀ w', SlotMap w' b (n + 1) (updS f k1 k2 k3 d) → w.grownBy w' (some b) → K (a.put o.dst undef) w') : o.wp Tryz.prog a w K Q := by
  obtain ⟨D, h1, h2⟩ := hown
  obtain ⟨w1, hrun, h3, h4⟩ := h1.store keyS_law Tryz.underlying125 (by unfold maxLen; omega) (keyOf_slot hwf) (show selfElem (dsVal d) = some (.held (dsVal d), []) from rfl)
  unfold Oper.wp
  simp [execOp, hop, hm, hx, hv, hrun, Result.andThen]
  refine h w1 ⟨_, h3, fun m' r' s' hw' => ?_⟩ h4.grown
  unfold updS
  by_cases e : m' = k1 ∧ r' = k2 ∧ s' = k3
  · rw [if_pos e]
    obtain ⟨rfl, rfl, rfl⟩ := e
    refine ⟨has_put_same h1.isMap (by trivial) _, fun y hy => ?_⟩
    rw [atKey_put_same h1.isMap (by trivial)]
    cases hy
    rfl
  · rw [if_neg e]
    have hne : keyL m' r' s' ≠ keyL k1 k2 k3 := fun e2 => e (keyL_inj hw' hwf e2)
    rw [has_put_other hne, atKey_put_other hne]
    exact h2 m' r' s' hw'
end
end
section
open Go.RowKit Go.Maps
def sent (t : List Sl) (m r s : Int) : Option Ds := (t.reverse.find? (sameSl m r s)).map (·.desc)
theorem sent_snoc (t : List Sl) (x : Sl) : sent (t ++ [x]) = updS (sent t) x.mode x.round x.slot x.desc := by
  funext m r s
  unfold sent updS
  rw [List.reverse_append, List.reverse_singleton, List.singleton_append, List.find?_cons]
  by_cases h : m = x.mode ∧ r = x.round ∧ s = x.slot
  · obtain ⟨rfl, rfl, rfl⟩ := h
    simp [sameSl]
  · have : sameSl m r s x = false := by
      rw [Bool.eq_false_iff]
      intro hc
      obtain ⟨h1, h2, h3⟩ := same_iff.1 hc
      exact h ⟨h1.symm, h2.symm, h3.symm⟩
    rw [if_neg h, this]
theorem sls_uniq {t : List Sl} (h : isSls t = true) {m r s : Int} {x y : Sl} (hx : x ∈ t) (hy : y ∈ t) (h1 : sameSl m r s x = true) (h2 : sameSl m r s y = true) : x = y := by
  obtain ⟨-, -, h3⟩ := isSls_iff.1 h
  obtain ⟨a1, a2, a3⟩ := same_iff.1 h1
  obtain ⟨b1, b2, b3⟩ := same_iff.1 h2
  obtain ⟨i, hi, ei⟩ := List.getElem_of_mem hx
  obtain ⟨j, hj, ej⟩ := List.getElem_of_mem hy
  rcases Nat.lt_trichotomy i j with hij | rfl | hij
  · have := List.pairwise_iff_getElem.1 h3 i j hi hj hij
    rw [ei, ej, cmp_lt] at this
    omega
  · rw [← ei, ← ej]
  · have := List.pairwise_iff_getElem.1 h3 j i hj hi hij
    rw [ei, ej, cmp_lt] at this
    omega
theorem sent_find {t : List Sl} (h : isSls t = true) (m r s : Int) : sent t m r s = (t.find? (sameSl m r s)).map (·.desc) := by
  unfold sent
  rcases h1 : t.find? (sameSl m r s) with _ | x
  · have : t.reverse.find? (sameSl m r s) = none := by
      rw [List.find?_eq_none] at h1 ⊢
      exact fun y hy => h1 y (List.mem_reverse.1 hy)
    rw [this]
  · rcases h2 : t.reverse.find? (sameSl m r s) with _ | y
    · have := List.find?_eq_none.1 h2 x (List.mem_reverse.2 (List.mem_of_find?_eq_some h1))
      exact absurd (List.find?_some h1) this
    · rw [sls_uniq h (List.mem_of_find?_eq_some h1) (List.mem_reverse.1 (List.mem_of_find?_eq_some h2)) (List.find?_some h1) (List.find?_some h2)]
def wfE (x : Sl) : Prop := wfk x.mode x.round x.slot
theorem wfE_of {x : Sl} (h : isSl x = true) : wfE x := by
  obtain ⟨h1, h2, h3, -⟩ := isSl_iff.1 h
  exact ⟨WalkArith.wf_i64 (by omega), WalkArith.wf_i64 (by omega), WalkArith.wf_i64 (by omega)⟩
theorem wfE_all {t : List Sl} (h : isSls t = true) : ∀ x ∈ t, wfE x := fun x hx => wfE_of ((isSls_iff.1 h).2.1 x hx)
theorem findSlot_no {t : List Sl} {m r s : Int} (h : isSls t = false) : findSlot t m r s = (Ds.zero, 1) := by unfold findSlot; rw [if_pos h]
theorem findSlot_none {t : List Sl} {m r s : Int} (h : isSls t = true) (h2 : sent t m r s = none) : findSlot t m r s = (Ds.zero, 4) := by
  rw [sent_find h] at h2
  unfold findSlot
  rw [if_neg (by rw [h]; simp)]
  rcases hf : t.find? (sameSl m r s) with _ | x
  · rfl
  · rw [hf] at h2; cases h2
theorem findSlot_some {t : List Sl} {m r s : Int} {d : Ds} (h : isSls t = true) (h2 : sent t m r s = some d) : findSlot t m r s = (d, 0) := by
  rw [sent_find h] at h2
  unfold findSlot
  rw [if_neg (by rw [h]; simp)]
  rcases hf : t.find? (sameSl m r s) with _ | x
  · rw [hf] at h2; cases h2
  · rw [hf] at h2; cases h2; rfl
set_option maxRecDepth 100000 in
set_option maxHeartbeats 1000000 in
theorem keyOfS_any (x : Sl) (w : World) : Calls Tryz.prog 171 #[slVal x] w fun e w' => e = .returned (keyV x.mode x.round x.slot) ∧ Below w.heap.size w w' := by
  have HB := Lib.hid (show Below w.heap.size w ((w.alloc (.cells #[.int .i64 x.mode, .int .i64 x.round, .int .i64 x.slot, .int .i64 x.desc.node, .int .i64 x.desc.kind, .int .i64 x.desc.size, .int .i64 x.desc.dur, .bool x.desc.chg] 74)).alloc (.cells #[.int .i64 0, .int .i64 0, .int .i64 0] 128)) from below_two ((Below.refl _ _).alloc (Nat.le_refl _) _) ((Below.refl _ _).alloc (Nat.le_refl _) _))
  have HX := Lib.hid ((SlBk.new (T := 74) (x := x) w).below ((Below.refl _ _).alloc (Nat.le_refl _) (.cells #[.int .i64 0, .int .i64 0, .int .i64 0] 128)) (by simp))
  have h0 : ((w.alloc (.cells #[.int .i64 x.mode, .int .i64 x.round, .int .i64 x.slot, .int .i64 x.desc.node, .int .i64 x.desc.kind, .int .i64 x.desc.size, .int .i64 x.desc.dur, .bool x.desc.chg] 74)).alloc (.cells #[.int .i64 0, .int .i64 0, .int .i64 0] 128)).heap[w.heap.size + 1]? = some (.cells #[.int .i64 0, .int .i64 0, .int .i64 0] 128 (0, 0)) := by
    have h := heap_alloc_new (w.alloc (.cells #[.int .i64 x.mode, .int .i64 x.round, .int .i64 x.slot, .int .i64 x.desc.node, .int .i64 x.desc.kind, .int .i64 x.desc.size, .int .i64 x.desc.dur, .bool x.desc.chg] 74)) (.cells #[.int .i64 0, .int .i64 0, .int .i64 0] 128 (0, 0))
    rw [World.size_alloc] at h
    exact h
  have HK := Lib.hid h0
  clear h0
  unfold slVal
  go_enter Tryz.func171, Tryz.ntmps171
  go_upto_region 1 with fail
  generalize (w.alloc (.cells #[.int .i64 x.mode, .int .i64 x.round, .int .i64 x.slot, .int .i64 x.desc.node, .int .i64 x.desc.kind, .int .i64 x.desc.size, .int .i64 x.desc.dur, .bool x.desc.chg] 74)).alloc (.cells #[.int .i64 0, .int .i64 0, .int .i64 0] 128) = w1 at HB HX HK ⊢
  obtain ⟨q0, q1, q2, q3, q4, q5, q6, q7⟩ := HX.out.all8
  have c0 := cell_of_row w1 _ 0 _ _ _ HK.out; have c1 := cell_of_row w1 _ 1 _ _ _ HK.out; have c2 := cell_of_row w1 _ 2 _ _ _ HK.out
  have f0 := frozen_of_row w1 _ 0 _ _ HK.out; have f1 := frozen_of_row w1 _ 1 _ _ HK.out; have f2 := frozen_of_row w1 _ 2 _ _ HK.out
  simp only [List.getElem?_toArray, List.getElem?_cons_zero, List.getElem?_cons_succ] at c0 c1 c2
  go_wp2_with fail
  clear c0 c1 c2 f0 f1 f2 q0 q1 q2 q3 q4 q5 q6 q7
  have k1 := heap_setCell_same w1 (w.heap.size + 1) 0 _ _ (.int .i64 x.mode) HK.out
  have k2 := heap_setCell_same _ (w.heap.size + 1) 1 _ _ (.int .i64 x.round) k1
  have k3 := heap_setCell_same _ (w.heap.size + 1) 2 _ _ (.int .i64 x.slot) k2
  have HBE := ((HB.out.setCell (p := ⟨w.heap.size + 1, 0, none⟩) (show w.heap.size ≤ w.heap.size + 1 by omega) (.int .i64 x.mode)).setCell (p := ⟨w.heap.size + 1, 1, none⟩) (show w.heap.size ≤ w.heap.size + 1 by omega) (.int .i64 x.round)).setCell (p := ⟨w.heap.size + 1, 2, none⟩) (show w.heap.size ≤ w.heap.size + 1 by omega) (.int .i64 x.slot)
  generalize ((w1.setCell ⟨w.heap.size + 1, 0, none⟩ (.int .i64 x.mode)).setCell ⟨w.heap.size + 1, 1, none⟩ (.int .i64 x.round)).setCell ⟨w.heap.size + 1, 2, none⟩ (.int .i64 x.slot) = w2 at k3 HBE ⊢
  have d0 : w2.cell? ⟨w.heap.size + 1, 0, none⟩ = some (.int .i64 x.mode) := by rw [cell_of_row _ _ 0 _ _ _ k3]; rfl
  have d1 : w2.cell? ⟨w.heap.size + 1, 1, none⟩ = some (.int .i64 x.round) := by rw [cell_of_row _ _ 1 _ _ _ k3]; rfl
  have d2 : w2.cell? ⟨w.heap.size + 1, 2, none⟩ = some (.int .i64 x.slot) := by rw [cell_of_row _ _ 2 _ _ _ k3]; rfl
  exact bodyPost_ret (v := keyV x.mode x.round x.slot) (by simp [keyV, results, Tryz.results171, go_sem, d0, d1, d2]) rfl ⟨rfl, HBE⟩
theorem slot_apart {w : World} {b n T : Nat} {f : Int → Int → Int → Option Ds} {x : Sl} (h : SlotMap w b n f) (h2 : SlBk T w b x) : False := by
  obtain ⟨D, ⟨es, clock, hb, -⟩, -⟩ := h
  have := h2.symm.trans hb
  cases this
set_option maxRecDepth 100000 in
set_option maxHeartbeats 2000000 in
set_option linter.unusedSimpArgs false in
theorem sentIn_any (ao : Option Addr) (n cap : Nat) (t : List Sl) (w : World) (hr : RdE w ao n t) (hn : n ≤ 1048576) (hwf : ∀ x ∈ t, wfE x) :
    Calls Tryz.prog 120 #[.slice ao n cap] w fun e w' => ∃ b, e = .returned (.map (some b)) ∧ w.heap.size ≤ b ∧ SlotMap w' b n (sent t) ∧ Below w.heap.size w w' := by
  have HL := Lib.hid hr.len
  have HR := Lib.hid hr
  have HWF := Lib.hid hwf
  have hmm := makeSlotMap
  have M0 := Lib.hid (slotMap_made w)
  have B0 := Lib.hid ((Below.refl w.heap.size w).alloc (Nat.le_refl _) (.map #[] 0))
  clear hr hwf
  go_enter Tryz.func120, Tryz.ntmps120
  go_wp2_with fail
  go_loopw [11] (fun i wr => ∃ k : Nat, k ≤ n ∧ i = .int .i64 k ∧ Hid (SlotMap wr w.heap.size k (sent (t.take k))) ∧ Hid (Below w.heap.size w wr)) (fun i _ => n - (intOf i).toNat)
  case atStart => exact ⟨0, Nat.zero_le _, rfl, M0.out, B0.out⟩
  case round =>
    clear M0 B0
    obtain ⟨k, hk, rfl, HM, HB⟩ := hrel
    by_cases hlt : k < n
    · obtain ⟨b, off, e0, hg, hx⟩ := HR.out.at hlt
      subst e0
      have hkt : k < t.length := by rw [HL.out]; exact hlt
      have HSN := Lib.hid (show sent (t.take (k + 1)) = updS (sent (t.take k)) (slOf t k).mode (slOf t k).round (slOf t k).slot (slOf t k).desc from by rw [slOf_get hkt, List.take_succ_eq_append_getElem hkt, sent_snoc])
      have HW := Lib.hid (HWF.out _ (slOf_mem hkt))
      have hxr := hx.below HB.out hg
      obtain ⟨x, hxe⟩ : ∃ x, x = slOf t k := ⟨_, rfl⟩
      rw [← hxe] at hxr HSN HW
      obtain ⟨q0, q1, q2, q3, q4, q5, q6, q7⟩ := hxr.all8
      have bal := (Below.refl wr.heap.size wr).alloc (Nat.le_refl _) (.cells #[.int .i64 x.mode, .int .i64 x.round, .int .i64 x.slot, .int .i64 x.desc.node, .int .i64 x.desc.kind, .int .i64 x.desc.size, .int .i64 x.desc.dur, .bool x.desc.chg] 74)
      have HX := Lib.hid (SlBk.new (T := 74) (x := x) wr)
      have HM1 := Lib.hid (HM.out.below bal)
      have HB1 := Lib.hid (below_two HB.out bal)
      clear hx hg hxe hkt bal
      go_upto_region 5 with fail
      clear q0 q1 q2 q3 q4 q5 q6 q7 hxr HM HB
      generalize wr.alloc (.cells #[.int .i64 x.mode, .int .i64 x.round, .int .i64 x.slot, .int .i64 x.desc.node, .int .i64 x.desc.kind, .int .i64 x.desc.size, .int .i64 x.desc.dur, .bool x.desc.chg] 74) = w1 at HX HM1 HB1 ⊢
      have HXW := Lib.hid (fun W (hW : Below w1.heap.size w1 W) => (HX.out.below hW HX.out.lt).all8)
      have HD := Lib.hid (show Below w1.heap.size w1 w1.drew from Below.drew (Below.refl _ _))
      have HKO := Lib.hid (fun W => keyOfS_any x W)
      unfold slVal at HKO
      refine wp_region_held_drew (S := fun w' => w'.cell? ⟨wr.heap.size, 0, none⟩ = some (Value.int .i64 x.mode) ∧ w'.cell? ⟨wr.heap.size, 1, none⟩ = some (Value.int .i64 x.round) ∧ w'.cell? ⟨wr.heap.size, 2, none⟩ = some (Value.int .i64 x.slot) ∧ w'.cell? ⟨wr.heap.size, 3, none⟩ = some (Value.int .i64 x.desc.node) ∧ w'.cell? ⟨wr.heap.size, 4, none⟩ = some (Value.int .i64 x.desc.kind) ∧ w'.cell? ⟨wr.heap.size, 5, none⟩ = some (Value.int .i64 x.desc.size) ∧ w'.cell? ⟨wr.heap.size, 6, none⟩ = some (Value.int .i64 x.desc.dur) ∧ w'.cell? ⟨wr.heap.size, 7, none⟩ = some (Value.bool x.desc.chg)) (by kernel_rfl) (HXW.out _ HD.out) (fun hHeld => ?_)
      generalize w1.drew = w2 at HD hHeld ⊢
      refine wpAnyH_take (i := 0) (v := ?_) rfl (by kernel_rfl) (by kernel_rfl) (by kernel_rfl) (fun _ _ _ h => h) (Or.inl ⟨by rfl, ?_⟩) (by assumption) ?_
      rotate_left
      · (intro w hSw; (try dsimp only at hSw); go_simp; (try with_reducible rfl))
      try simp only [List.getElem_toArray, List.getElem_cons_succ, List.getElem_cons_zero, Act.put, List.setIfInBounds_toArray, List.set_cons_zero, List.set_cons_succ]
      refine wpAnyH_take (i := 1) (v := ?_) rfl (by kernel_rfl) (by kernel_rfl) (by kernel_rfl) (fun _ _ _ h => h) (Or.inl ⟨by rfl, ?_⟩) (by assumption) ?_
      rotate_left
      · (intro w hSw; (try dsimp only at hSw); go_simp; (try with_reducible rfl))
      try simp only [List.getElem_toArray, List.getElem_cons_succ, List.getElem_cons_zero, Act.put, List.setIfInBounds_toArray, List.set_cons_zero, List.set_cons_succ]
      refine wpAnyH_take (i := 3) (v := ?_) rfl (by kernel_rfl) (by kernel_rfl) (by kernel_rfl) (fun _ _ _ h => h) (Or.inl ⟨by rfl, ?_⟩) (by assumption) ?_
      rotate_left
      · (intro w hSw; (try dsimp only at hSw); go_simp; (try with_reducible rfl))
      try simp only [List.getElem_toArray, List.getElem_cons_succ, List.getElem_cons_zero, Act.put, List.setIfInBounds_toArray, List.set_cons_zero, List.set_cons_succ]
      refine wpAnyH_take (i := 4) (v := ?_) rfl (by kernel_rfl) (by kernel_rfl) (by kernel_rfl) (fun _ _ _ h => h) (Or.inl ⟨by rfl, ?_⟩) (by assumption) ?_
      rotate_left
      · (intro w hSw; (try dsimp only at hSw); go_simp; (try with_reducible rfl))
      try simp only [List.getElem_toArray, List.getElem_cons_succ, List.getElem_cons_zero, Act.put, List.setIfInBounds_toArray, List.set_cons_zero, List.set_cons_succ]
      refine wpAnyH_ready (rs := [2]) (by kernel_rfl) (by simp) (AllReadyH.cons rfl (fun K hK => ?_) AllReadyH.nil)
      go_simp
      refine (HKO.out _).mono ?_
      rintro e w3 ⟨rfl, b3⟩
      have HD3 := Lib.hid (below_two HD.out b3); clear b3
      go_wp2_with fail
      refine hK.out _ _ ?_ (fun hHeld => ?_)
      · exact HXW.out _ HD3.out
      clear hK K
      try simp only [List.getElem_toArray, List.getElem_cons_succ, List.getElem_cons_zero, Act.put, List.setIfInBounds_toArray, List.set_cons_zero, List.set_cons_succ]
      refine wpAnyH_ready (rs := [5]) (by kernel_rfl) (by simp) (AllReadyH.cons rfl (fun K hK => ?_) AllReadyH.nil)
      refine storeS_op _ (.tmp 15) (.tmp 17) (.tmp 19) rfl w.heap.size k (sent (t.take k)) rfl (HM1.out.below HD3.out) (by omega) x.mode x.round x.slot x.desc rfl rfl HW.out ?_
      intro w4 m4 g4
      rw [← HSN.out] at m4
      have HM4 := Lib.hid m4
      have HB4 := Lib.hid ((below_two HB1.out HD3.out).grown g4 (below_two HB1.out HD3.out).size (fun q hq => by cases hq; exact Nat.le_refl _))
      have HX4 := Lib.hid ((HX.out.below HD3.out HX.out.lt).grown g4 (fun e => slot_apart (b := w.heap.size) HM1.out (by rw [← Option.some.inj e]; exact HX.out)))
      clear m4 g4
      refine hK.out _ _ ?_ (fun hHeld => ?_)
      · exact HX4.out.all8
      clear hK K
      try simp only [List.getElem_toArray, List.getElem_cons_succ, List.getElem_cons_zero, Act.put, List.setIfInBounds_toArray, List.set_cons_zero, List.set_cons_succ]
      refine wpAnyH_done (by kernel_rfl) ?_ _
      go_wp2_with fail
      go_roundw
      case rel => exact ⟨k + 1, by omega, by go_num, HM4, HB4⟩
      case measure => simp [intOf]; omega
    · have hkn : k = n := by omega
      subst hkn
      have ht : t.take k = t := List.take_of_length_le (by rw [HL.out]; exact Nat.le_refl _)
      rw [ht] at HM
      go_wp2_with fail
      go_ret
      exact ⟨_, rfl, Nat.le_refl _, HM.out, HB.out⟩
end
section
open Go.RowKit Go.Maps
set_option maxRecDepth 100000 in
set_option maxHeartbeats 2000000 in
theorem findSlotI_any (ao : Option Addr) (n cap : Nat) (t : List Sl) (m r s : Int) (w : World) (hr : RdE w ao n t) (hn : n ≤ 1048576) (hwf : wfk m r s) :
    Calls Tryz.prog 57 #[.slice ao n cap, .int .i64 m, .int .i64 r, .int .i64 s] w fun e w' => e = .returned (.tuple #[dsVal (findSlot t m r s).1, .int .i64 (findSlot t m r s).2]) ∧ Below w.heap.size w w' := by
  have b0 := (Below.refl w.heap.size w).alloc (Nat.le_refl _) (.cells #[.int .i64 0, .int .i64 0, .int .i64 0, .int .i64 0, .bool false] 72)
  have HIS := Lib.hid (isSlsI_any ao n cap t _ (hr.below b0) hn)
  have HV := Lib.hid (DescAt.new (T := 72) (n := 0) (a := 0) (z := 0) (u := 0) (c := false) w)
  have HB := Lib.hid b0
  have HR := Lib.hid (hr.below b0)
  clear hr b0
  rcases hi : isSls t with _ | _
  · have HF := Lib.hid (findSlot_no (m := m) (r := r) (s := s) hi)
    go_enter Tryz.func57, Tryz.ntmps57
    go_wp2_with fail
    refine HIS.out.mono ?_
    rintro e w1 ⟨rfl, b1⟩
    rw [hi]
    have V1 := HV.out.below b1 HV.out.lt
    have B1 := Lib.hid (below_two HB.out b1)
    have c0 := V1.c0; have c1 := V1.c1; have c2 := V1.c2; have c3 := V1.c3; have c4 := V1.c4
    have f0 := V1.f 0; have f1 := V1.f 1; have f2 := V1.f 2; have f3 := V1.f 3; have f4 := V1.f 4
    have HV1 := Lib.hid V1
    clear V1 b1 HIS
    go_wp2_with fail
    clear c0 c1 c2 c3 c4 f0 f1 f2 f3 f4
    rw [HF.out]
    change bodyPost _ _ _ _ _ (setDesc w1 w.heap.size 0 0 0 0 false)
    have VF := HV1.out.five 0 0 0 0 false
    have BF := B1.out.trans (below_desc (B := w.heap.size) (w := w1) (Nat.le_refl _) 0 0 0 0 false)
    generalize setDesc w1 w.heap.size 0 0 0 0 false = w5 at VF BF ⊢
    have e0 := VF.c0; have e1 := VF.c1; have e2 := VF.c2; have e3 := VF.c3; have e4 := VF.c4
    exact bodyPost_ret (v := .tuple #[dsVal Ds.zero, .int .i64 1]) (by simp [dsVal, Ds.zero, results, Tryz.results57, go_sem, e0, e1, e2, e3, e4]) rfl ⟨rfl, BF⟩
  have HSE := Lib.hid (fun W (hW : Below (w.alloc (.cells #[.int .i64 0, .int .i64 0, .int .i64 0, .int .i64 0, .bool false] 72)).heap.size (w.alloc (.cells #[.int .i64 0, .int .i64 0, .int .i64 0, .int .i64 0, .bool false] 72)) W) => sentIn_any ao n cap t W (HR.out.below hW) hn (wfE_all hi))
  rcases hs : sent t m r s with _ | d
  · have HF := Lib.hid (findSlot_none hi hs)
    go_enter Tryz.func57, Tryz.ntmps57
    go_wp2_with fail
    refine HIS.out.mono ?_
    rintro e w1 ⟨rfl, b1⟩
    rw [hi]
    have HC := Lib.hid (HSE.out _ b1)
    have HV1 := Lib.hid (HV.out.below b1 HV.out.lt)
    have HB1 := Lib.hid (below_two HB.out b1)
    clear b1 HIS HSE HR HV HB
    go_wp2_with fail
    refine HC.out.mono ?_
    rintro e w2 ⟨b, rfl, hb, hm, b2⟩
    have HM := Lib.hid hm
    have HV2 := Lib.hid (HV1.out.below b2 HV1.out.lt)
    have HB2 := Lib.hid (below_two HB1.out b2)
    have HVZ := Lib.hid (HV2.out.below ((Below.refl w2.heap.size w2).alloc (Nat.le_refl _) (.cells #[.int .i64 0, .int .i64 0, .int .i64 0, .int .i64 0, .bool false] 72)) HV2.out.lt)
    have HBZ := Lib.hid (HB2.out.alloc HB2.out.size (.cells #[.int .i64 0, .int .i64 0, .int .i64 0, .int .i64 0, .bool false] 72))
    have HVD := Lib.hid (fun n a z u c => HV2.out.below ((Below.refl w2.heap.size w2).alloc (Nat.le_refl _) (.cells #[.int .i64 n, .int .i64 a, .int .i64 z, .int .i64 u, .bool c] 72)) HV2.out.lt)
    have HBD := Lib.hid (fun n a z u c => HB2.out.alloc HB2.out.size (.cells #[.int .i64 n, .int .i64 a, .int .i64 z, .int .i64 u, .bool c] 72))
    clear hb hm b2 HC
    have c0 := HVZ.out.c0; have c1 := HVZ.out.c1; have c2 := HVZ.out.c2; have c3 := HVZ.out.c3; have c4 := HVZ.out.c4
    have f0 := HVZ.out.f 0; have f1 := HVZ.out.f 1; have f2 := HVZ.out.f 2; have f3 := HVZ.out.f 3; have f4 := HVZ.out.f 4
    go_wp2_with (at_lookup; refine lookS _ rfl (.tmp 18) (.tmp 22) rfl b n (sent t) rfl HM.out m r s rfl hwf ?_; rw [hs]; simp only [Option.getD, Option.isSome]; unfold dsVal Ds.zero; try dsimp only)
    clear c0 c1 c2 c3 c4 f0 f1 f2 f3 f4
    rw [HF.out]
    change bodyPost _ _ _ _ _ (setDesc (w2.alloc (.cells #[.int .i64 0, .int .i64 0, .int .i64 0, .int .i64 0, .bool false] 72)) w.heap.size 0 0 0 0 false)
    have VF := HVZ.out.five 0 0 0 0 false
    have BF := HBZ.out.trans (below_desc (B := w.heap.size) (w := w2.alloc (.cells #[.int .i64 0, .int .i64 0, .int .i64 0, .int .i64 0, .bool false] 72)) (Nat.le_refl _) 0 0 0 0 false)
    generalize setDesc (w2.alloc (.cells #[.int .i64 0, .int .i64 0, .int .i64 0, .int .i64 0, .bool false] 72)) w.heap.size 0 0 0 0 false = w5 at VF BF ⊢
    have e0 := VF.c0; have e1 := VF.c1; have e2 := VF.c2; have e3 := VF.c3; have e4 := VF.c4
    exact bodyPost_ret (v := .tuple #[dsVal Ds.zero, .int .i64 4]) (by simp [dsVal, Ds.zero, results, Tryz.results57, go_sem, e0, e1, e2, e3, e4]) rfl ⟨rfl, BF⟩
  · have HF := Lib.hid (findSlot_some hi hs)
    go_enter Tryz.func57, Tryz.ntmps57
    go_wp2_with fail
    refine HIS.out.mono ?_
    rintro e w1 ⟨rfl, b1⟩
    rw [hi]
    have HC := Lib.hid (HSE.out _ b1)
    have HV1 := Lib.hid (HV.out.below b1 HV.out.lt)
    have HB1 := Lib.hid (below_two HB.out b1)
    clear b1 HIS HSE HR HV HB
    go_wp2_with fail
    refine HC.out.mono ?_
    rintro e w2 ⟨b, rfl, hb, hm, b2⟩
    have HM := Lib.hid hm
    have HV2 := Lib.hid (HV1.out.below b2 HV1.out.lt)
    have HB2 := Lib.hid (below_two HB1.out b2)
    have HVZ := Lib.hid (HV2.out.below ((Below.refl w2.heap.size w2).alloc (Nat.le_refl _) (.cells #[.int .i64 0, .int .i64 0, .int .i64 0, .int .i64 0, .bool false] 72)) HV2.out.lt)
    have HBZ := Lib.hid (HB2.out.alloc HB2.out.size (.cells #[.int .i64 0, .int .i64 0, .int .i64 0, .int .i64 0, .bool false] 72))
    have HVD := Lib.hid (fun n a z u c => HV2.out.below ((Below.refl w2.heap.size w2).alloc (Nat.le_refl _) (.cells #[.int .i64 n, .int .i64 a, .int .i64 z, .int .i64 u, .bool c] 72)) HV2.out.lt)
    have HBD := Lib.hid (fun n a z u c => HB2.out.alloc HB2.out.size (.cells #[.int .i64 n, .int .i64 a, .int .i64 z, .int .i64 u, .bool c] 72))
    clear hb hm b2 HC
    have hvr := HVD.out d.node d.kind d.size d.dur d.chg
    have hvn := DescAt.new (T := 72) (n := d.node) (a := d.kind) (z := d.size) (u := d.dur) (c := d.chg) w2
    have hbr := HBD.out d.node d.kind d.size d.dur d.chg
    have HVR := Lib.hid hvr; have HBR := Lib.hid hbr
    have c0 := hvr.c0; have c1 := hvr.c1; have c2 := hvr.c2; have c3 := hvr.c3; have c4 := hvr.c4
    have f0 := hvr.f 0; have f1 := hvr.f 1; have f2 := hvr.f 2; have f3 := hvr.f 3; have f4 := hvr.f 4
    have q0 := hvn.c0; have q1 := hvn.c1; have q2 := hvn.c2; have q3 := hvn.c3; have q4 := hvn.c4
    clear hvr hvn hbr
    go_wp2_with (at_lookup; refine lookS _ rfl (.tmp 18) (.tmp 22) rfl b n (sent t) rfl HM.out m r s rfl hwf ?_; rw [hs]; simp only [Option.getD, Option.isSome]; unfold dsVal; try dsimp only)
    clear c0 c1 c2 c3 c4 f0 f1 f2 f3 f4 q0 q1 q2 q3 q4
    rw [HF.out]
    change bodyPost _ _ _ _ _ (setDesc (w2.alloc (.cells #[.int .i64 d.node, .int .i64 d.kind, .int .i64 d.size, .int .i64 d.dur, .bool d.chg] 72)) w.heap.size d.node d.kind d.size d.dur d.chg)
    have VF := HVR.out.five d.node d.kind d.size d.dur d.chg
    have BF := HBR.out.trans (below_desc (B := w.heap.size) (w := (w2.alloc (.cells #[.int .i64 d.node, .int .i64 d.kind, .int .i64 d.size, .int .i64 d.dur, .bool d.chg] 72))) (Nat.le_refl _) d.node d.kind d.size d.dur d.chg)
    generalize setDesc (w2.alloc (.cells #[.int .i64 d.node, .int .i64 d.kind, .int .i64 d.size, .int .i64 d.dur, .bool d.chg] 72)) w.heap.size d.node d.kind d.size d.dur d.chg = w5 at VF BF ⊢
    have e0 := VF.c0; have e1 := VF.c1; have e2 := VF.c2; have e3 := VF.c3; have e4 := VF.c4
    exact bodyPost_ret (v := .tuple #[dsVal d, .int .i64 0]) (by simp [dsVal, results, Tryz.results57, go_sem, e0, e1, e2, e3, e4]) rfl ⟨rfl, BF⟩
end
section
open Go.RowKit Go.Maps
def placeS (t : List Sl) (m r s : Int) : Int := match t.findIdx? (sameSl m r s) with
  | some i => (i : Int)
  | none => -1
theorem placeS_at {t : List Sl} {m r s : Int} {k : Nat} (hk : k < t.length) (hall : ∀ j, j < k → sameSl m r s (slOf t j) = false) (h : sameSl m r s (slOf t k) = true) : placeS t m r s = (k : Int) := by
  have : t.findIdx? (sameSl m r s) = some k := by
    rw [List.findIdx?_eq_some_iff_getElem]
    refine ⟨hk, by rw [← slOf_get hk]; exact h, fun j hj => ?_⟩
    rw [← slOf_get (by omega), hall j hj]
    simp
  unfold placeS
  rw [this]
theorem placeS_none {t : List Sl} {m r s : Int} (hall : ∀ j, j < t.length → sameSl m r s (slOf t j) = false) : placeS t m r s = -1 := by
  have : t.findIdx? (sameSl m r s) = none := by
    rw [List.findIdx?_eq_none_iff]
    intro x hx
    obtain ⟨i, hi, rfl⟩ := mem_slOf hx
    exact hall i hi
  unfold placeS
  rw [this]
theorem placeS_case (t : List Sl) (m r s : Int) : (placeS t m r s = -1 ∧ t.find? (sameSl m r s) = none) ∨ ∃ k, k < t.length ∧ placeS t m r s = (k : Int) ∧ t.find? (sameSl m r s) = some (slOf t k) := by
  unfold placeS
  rcases h : t.findIdx? (sameSl m r s) with _ | k
  · refine .inl ⟨rfl, List.find?_eq_none.2 fun x hx => ?_⟩
    have := List.findIdx?_eq_none_iff.1 h x hx
    simp [this]
  · obtain ⟨hk, h1, h2⟩ := List.findIdx?_eq_some_iff_getElem.1 h
    refine .inr ⟨k, hk, rfl, ?_⟩
    rw [List.find?_eq_some_iff_getElem]
    refine ⟨by rw [slOf_get hk]; exact h1, k, hk, (slOf_get hk).symm, fun j hj => ?_⟩
    have := h2 j hj
    simpa using this
set_option maxRecDepth 100000 in
set_option maxHeartbeats 2000000 in
theorem l12Find_any (ao : Option Addr) (n cap : Nat) (t : List Sl) (m r s : Int) (w : World) (hr : RdE w ao n t) (hn : n ≤ 1048576) :
    Calls Tryz.prog 59 #[.slice ao n cap, .int .i64 m, .int .i64 r, .int .i64 s] w fun e w' => e = .returned (.int .i64 (placeS t m r s)) ∧ w = w' := by
  have HL := Lib.hid hr.len
  have HR := Lib.hid hr
  clear hr
  go_enter Tryz.func59, Tryz.ntmps59
  go_wp2
  go_loopw [9] (fun i wr => ∃ k : Nat, k ≤ n ∧ i = .int .i64 k ∧ wr = w ∧ Hid (∀ j, j < k → sameSl m r s (slOf t j) = false)) (fun i _ => n - (intOf i).toNat)
  case atStart => exact ⟨0, Nat.zero_le _, rfl, rfl, fun i h => absurd h (by omega)⟩
  case round =>
    obtain ⟨k, hk, rfl, rfl, hall⟩ := hrel
    by_cases hlt : k < n
    · obtain ⟨b, off, e0, hg, hx⟩ := HR.out.at hlt
      subst e0
      have HAT := Lib.hid (fun h => placeS_at (t := t) (m := m) (r := r) (s := s) (k := k) (by rw [HL.out]; exact hlt) hall.out h)
      have HNX := Lib.hid (fun (h : sameSl m r s (slOf t k) = false) j (hj : j < k + 1) => (by
        rcases Nat.lt_or_ge j k with hl | hl
        · exact hall.out j hl
        · rw [show j = k from by omega]; exact h : sameSl m r s (slOf t j) = false))
      obtain ⟨q0, q1, q2, -, -, -, -, -⟩ := hx.all8
      obtain ⟨x, hxe⟩ : ∃ x, x = slOf t k := ⟨_, rfl⟩
      rw [← hxe] at q0 q1 q2 HAT HNX
      clear hx hxe hall hg
      by_cases h0 : x.mode = m
      · by_cases h1 : x.round = r
        · by_cases h2 : x.slot = s
          · have HF := Lib.hid (HAT.out (by simp [sameSl, h0, h1, h2]))
            have t0 : (x.mode == m) = true := by simp [h0]
            have t1 : (x.round == r) = true := by simp [h1]
            have t2 : (x.slot == s) = true := by simp [h2]
            go_wp2
            go_ret
            rw [HF.out]
            exact ⟨rfl, rfl⟩
          · have HF := Lib.hid (HNX.out (by simp [sameSl, h2]))
            have t0 : (x.mode == m) = true := by simp [h0]
            have t1 : (x.round == r) = true := by simp [h1]
            have t2 : (x.slot == s) = false := by simp [h2]
            go_wp2
            go_roundw
            case rel => exact ⟨k + 1, by omega, by go_num, by first | rfl | trivial, HF⟩
            case measure => simp [intOf]; omega
        · have HF := Lib.hid (HNX.out (by simp [sameSl, h1]))
          have t0 : (x.mode == m) = true := by simp [h0]
          have t1 : (x.round == r) = false := by simp [h1]
          go_wp2
          go_roundw
          case rel => exact ⟨k + 1, by omega, by go_num, by first | rfl | trivial, HF⟩
          case measure => simp [intOf]; omega
      · have HF := Lib.hid (HNX.out (by simp [sameSl, h0]))
        have t0 : (x.mode == m) = false := by simp [h0]
        go_wp2
        go_roundw
        case rel => exact ⟨k + 1, by omega, by go_num, by first | rfl | trivial, HF⟩
        case measure => simp [intOf]; omega
    · have hkn : k = n := by omega
      subst hkn
      have HF := Lib.hid (placeS_none (t := t) (m := m) (r := r) (s := s) (by rw [HL.out]; exact hall.out))
      go_wp2
      go_ret
      rw [HF.out]
      exact ⟨rfl, rfl⟩
end
end
end Go.Proofs.YtljdkckoelgkbaaGreat
