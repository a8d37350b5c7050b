/-
  Chapter 4: StateDistance on both sides.
-/
import Derived.Test.YtenlfonekcpblaaC4f
import Derived.Test.YtenlfonekcpblaaOneB
namespace Go.Proofs.Ytenlfonekcpblaa
open Go.RowKit

/-- In how many bits two states differ. -/
def bitDist (t m r s k t' m' r' s' k' : Int) : Nat := (diffTo (stateBits t m r s k) (stateBits t' m' r' s' k') 64).length
/-- What StateDistance answers. -/
def distOf (t m r s k t' m' r' s' k' : Int) : Int × Int := if isState t m r s k = false ∨ isState t' m' r' s' k' = false then (0, 1) else ((bitDist t m r s k t' m' r' s' k' : Int), 0)
theorem di_1 {t m r s k t' m' r' s' k' : Int} (h : isState t m r s k = false) : distOf t m r s k t' m' r' s' k' = (0, 1) := by simp [distOf, h]
theorem di_2 {t m r s k t' m' r' s' k' : Int} (h : isState t' m' r' s' k' = false) : distOf t m r s k t' m' r' s' k' = (0, 1) := by simp [distOf, h]
theorem di_0 {t m r s k t' m' r' s' k' : Int} (h : isState t m r s k = true) (h' : isState t' m' r' s' k' = true) : distOf t m r s k t' m' r' s' k' = ((bitDist t m r s k t' m' r' s' k' : Int), 0) := by simp [distOf, h, h']
theorem bitDist_le (t m r s k t' m' r' s' k' : Int) : bitDist t m r s k t' m' r' s' k' ≤ 64 := diffTo_len _ _ _
theorem isBits_state (t m r s k : Int) : isBits (stateBits t m r s k) = true := isBits_iff.2 ⟨by rw [stateBits_len]; omega, stateBits_bits t m r s k⟩
theorem differing_state (t m r s k t' m' r' s' k' : Int) : differingBits (stateBits t m r s k) (stateBits t' m' r' s' k') = (diffTo (stateBits t m r s k) (stateBits t' m' r' s' k') 64, 0) := by
  unfold differingBits
  simp [isBits_state, stateBits_len]
/-- spec.l01Differ and impl.DifferingBits of the bits of two states. -/
theorem differ_state (ao bo : Option Addr) (n n' cap cap' : Nat) (xs ys zs : List Int) (w : World) (hr : Rd w ao n xs) (hr' : Rd w bo n' ys) (hn : n = 64) (hn' : n' = 64) (hz : diffTo xs ys 64 = zs) :
    Calls Try.prog 39 #[.slice ao n cap, .slice bo n' cap'] w (Makes 2 w zs) := by
  subst hn; subst hn'; subst hz
  exact l01Differ_any ao bo 64 cap cap' xs ys w hr hr' (by omega)
theorem differing_two (ao bo : Option Addr) (n n' cap cap' : Nat) (xs ys zs : List Int) (w : World) (hr : Rd w ao n xs) (hr' : Rd w bo n' ys) (hn : n = xs.length) (hn' : n' = ys.length) (hl : xs.length ≤ 1048576) (hl' : ys.length ≤ 1048576) (hz : differingBits xs ys = (zs, 0)) :
    Calls Try.prog 37 #[.slice ao n cap, .slice bo n' cap'] w (Makes2 2 w zs 0) := by
  subst hn; subst hn'
  have h := differingBits_any ao bo cap cap' xs ys w hr hr' hl hl'
  rw [hz] at h
  exact h

set_option maxRecDepth 100000 in
set_option maxHeartbeats 1000000 in
theorem stateDistance_any (t m r s k t' m' r' s' k' : Int) (w : World) :
    Calls Try.prog 17 #[.agg #[.int .i64 t, .int .i64 m, .int .i64 r, .int .i64 s, .int .i64 k], .agg #[.int .i64 t', .int .i64 m', .int .i64 r', .int .i64 s', .int .i64 k']] w (TimeLeft w (distOf t m r s k t' m' r' s' k')) := by
  rcases hA : isState t m r s k with _ | _
  · rw [di_1 hA]
    have HA := Lib.hid hA; clear hA
    go_enter Try.func17, Try.ntmps17
    go_wp2_with fail
    refine (isState_any _ _ _ _ _ _).mono ?_
    rintro e w1 ⟨rfl, b1⟩
    rw [HA.out]
    go_wp2
    go_ret2
    exact ⟨rfl, below_box2 b1⟩
  rcases hB : isState t' m' r' s' k' with _ | _
  · rw [di_2 hB]
    have HA := Lib.hid hA; clear hA
    have HB := Lib.hid hB; clear hB
    go_enter Try.func17, Try.ntmps17
    go_wp2_with fail
    refine (isState_any _ _ _ _ _ _).mono ?_
    rintro e w1 ⟨rfl, b1⟩
    rw [HA.out]
    obtain ⟨S1, S2⟩ := state_new2 b1
    have c0 := S2.c0
    have c1 := S2.c1
    have c2 := S2.c2
    have c3 := S2.c3
    have c4 := S2.c4
    have HZ := Lib.hid b1
    clear S1 S2 b1
    go_wp2_with fail
    clear c0 c1 c2 c3 c4
    refine (isState_any _ _ _ _ _ _).mono ?_
    rintro e w2 ⟨rfl, b2⟩
    rw [HB.out]
    go_wp2
    go_ret2
    exact ⟨rfl, below_box2 (below_two HZ.out b2)⟩
  · rw [di_0 hA hB]
    have HA := Lib.hid hA; clear hA
    have HB := Lib.hid hB; clear hB
    obtain ⟨xs, hx⟩ : ∃ xs, stateBits t m r s k = xs := ⟨_, rfl⟩
    obtain ⟨ys, hy⟩ : ∃ ys, stateBits t' m' r' s' k' = ys := ⟨_, rfl⟩
    obtain ⟨zs, hz⟩ : ∃ zs, diffTo xs ys 64 = zs := ⟨_, rfl⟩
    have hd : bitDist t m r s k t' m' r' s' k' = zs.length := by unfold bitDist; rw [hx, hy, hz]
    have hz2 := differing_state t m r s k t' m' r' s' k'
    have hlx := stateBits_len t m r s k
    have hly := stateBits_len t' m' r' s' k'
    rw [hx] at hlx
    rw [hy] at hly
    rw [hx, hy, hz] at hz2
    rw [hd]
    have HX := Lib.hid hx; clear hx
    have HY := Lib.hid hy; clear hy
    have HZZ := Lib.hid hz; clear hz
    have HZ2 := Lib.hid hz2; clear hz2
    have HLX := Lib.hid hlx; clear hlx
    have HLY := Lib.hid hly; clear hly hd
    go_enter Try.func17, Try.ntmps17
    go_wp2_with fail
    refine (isState_any _ _ _ _ _ _).mono ?_
    rintro e w1 ⟨rfl, b1⟩
    rw [HA.out]
    obtain ⟨S1, S2⟩ := state_new2 b1
    have c0 := S2.c0
    have c1 := S2.c1
    have c2 := S2.c2
    have c3 := S2.c3
    have c4 := S2.c4
    have HZ := Lib.hid b1
    clear S1 S2 b1
    go_wp2_with fail
    clear c0 c1 c2 c3 c4
    refine (isState_any _ _ _ _ _ _).mono ?_
    rintro e w2 ⟨rfl, b2⟩
    rw [HB.out]
    have HZ1 := Lib.hid (below_two HZ.out b2)
    clear HZ b2
    go_upto_region 3 with fail
    have H1 := Lib.hid (Held.still (E := 2) Held.start (Below.drew (Below.refl w2.heap.size w2)))
    have K := fun (w' : World) (h : Below w2.heap.size w2 w') => cells_two (below_two HZ1.out h)
    go_region_held3 (fun w' => w'.cell? ⟨w.heap.size, 0, none⟩ = some (.int .i64 t) ∧ w'.cell? ⟨w.heap.size, 1, none⟩ = some (.int .i64 m) ∧ w'.cell? ⟨w.heap.size, 2, none⟩ = some (.int .i64 r) ∧ w'.cell? ⟨w.heap.size, 3, none⟩ = some (.int .i64 s) ∧ w'.cell? ⟨w.heap.size, 4, none⟩ = some (.int .i64 k) ∧ w'.cell? ⟨w.heap.size + 1, 0, none⟩ = some (.int .i64 t') ∧ w'.cell? ⟨w.heap.size + 1, 1, none⟩ = some (.int .i64 m') ∧ w'.cell? ⟨w.heap.size + 1, 2, none⟩ = some (.int .i64 r') ∧ w'.cell? ⟨w.heap.size + 1, 3, none⟩ = some (.int .i64 s') ∧ w'.cell? ⟨w.heap.size + 1, 4, none⟩ = some (.int .i64 k'))
      (first | exact K _ H1.out.below | exact K _ H2.out.below | exact K _ H3.out.below | exact K _ H4.out.below)
      (first
        | (go_at_call 38; (with_reducible refine (bitsOfState_any t m r s k _).mono ?_); rintro e w3 m3; rw [HX.out] at m3; obtain ⟨p3, c3, rfl, o3, -, b3⟩ := m3.get; have H2 := Lib.hid (H1.out.make o3 b3); clear o3 b3 m3)
        | (go_at_call 38; (with_reducible refine (bitsOfState_any t' m' r' s' k' _).mono ?_); rintro e w4 m4; rw [HY.out] at m4; obtain ⟨p4, c4, rfl, o4, -, b4⟩ := m4.get; have H3 := Lib.hid (H2.out.make o4 b4); clear o4 b4 m4)
        | (go_at_call 37; have R1 := H3.out.rd 1 rfl rfl; have R0 := H3.out.rd 0 rfl rfl; (with_reducible refine (differing_two _ _ _ _ _ _ xs ys zs _ R1 R0 rfl rfl ?_ ?_ HZ2.out).mono ?_); (· have := HLX.out; omega); (· have := HLY.out; omega); rintro e w5 m5; obtain ⟨p5, c5, rfl, o5, -, b5⟩ := m5.get; have H4 := Lib.hid (H3.out.make o5 b5); clear o5 b5 m5 R0 R1))
    go_wp2_with fail
    go_ret2
    exact ⟨rfl, below_box2 (below_two HZ1.out H4.out.below)⟩
set_option maxRecDepth 100000 in
set_option maxHeartbeats 1000000 in
theorem sStateDistance_any (t m r s k t' m' r' s' k' : Int) (w : World) :
    Calls Try.prog 18 #[.agg #[.int .i64 t, .int .i64 m, .int .i64 r, .int .i64 s, .int .i64 k], .agg #[.int .i64 t', .int .i64 m', .int .i64 r', .int .i64 s', .int .i64 k']] w (TimeLeft w (distOf t m r s k t' m' r' s' k')) := by
  rcases hA : isState t m r s k with _ | _
  · rw [di_1 hA]
    have HA := Lib.hid hA; clear hA
    go_enter Try.func18, Try.ntmps18
    go_wp2_with fail
    refine (sIsState_any _ _ _ _ _ _).mono ?_
    rintro e w1 ⟨rfl, b1⟩
    rw [HA.out]
    go_wp2
    go_ret2
    exact ⟨rfl, below_box2 b1⟩
  rcases hB : isState t' m' r' s' k' with _ | _
  · rw [di_2 hB]
    have HA := Lib.hid hA; clear hA
    have HB := Lib.hid hB; clear hB
    go_enter Try.func18, Try.ntmps18
    go_wp2_with fail
    refine (sIsState_any _ _ _ _ _ _).mono ?_
    rintro e w1 ⟨rfl, b1⟩
    rw [HA.out]
    obtain ⟨S1, S2⟩ := state_new2 b1
    have c0 := S2.c0
    have c1 := S2.c1
    have c2 := S2.c2
    have c3 := S2.c3
    have c4 := S2.c4
    have HZ := Lib.hid b1
    clear S1 S2 b1
    go_wp2_with fail
    clear c0 c1 c2 c3 c4
    refine (sIsState_any _ _ _ _ _ _).mono ?_
    rintro e w2 ⟨rfl, b2⟩
    rw [HB.out]
    go_wp2
    go_ret2
    exact ⟨rfl, below_box2 (below_two HZ.out b2)⟩
  · rw [di_0 hA hB]
    have HA := Lib.hid hA; clear hA
    have HB := Lib.hid hB; clear hB
    obtain ⟨xs, hx⟩ : ∃ xs, stateBits t m r s k = xs := ⟨_, rfl⟩
    obtain ⟨ys, hy⟩ : ∃ ys, stateBits t' m' r' s' k' = ys := ⟨_, rfl⟩
    obtain ⟨zs, hz⟩ : ∃ zs, diffTo xs ys 64 = zs := ⟨_, rfl⟩
    have hd : bitDist t m r s k t' m' r' s' k' = zs.length := by unfold bitDist; rw [hx, hy, hz]
    have hz2 := differing_state t m r s k t' m' r' s' k'
    have hlx := stateBits_len t m r s k
    have hly := stateBits_len t' m' r' s' k'
    rw [hx] at hlx
    rw [hy] at hly
    rw [hx, hy, hz] at hz2
    rw [hd]
    have HX := Lib.hid hx; clear hx
    have HY := Lib.hid hy; clear hy
    have HZZ := Lib.hid hz; clear hz
    have HZ2 := Lib.hid hz2; clear hz2
    have HLX := Lib.hid hlx; clear hlx
    have HLY := Lib.hid hly; clear hly hd
    go_enter Try.func18, Try.ntmps18
    go_wp2_with fail
    refine (sIsState_any _ _ _ _ _ _).mono ?_
    rintro e w1 ⟨rfl, b1⟩
    rw [HA.out]
    obtain ⟨S1, S2⟩ := state_new2 b1
    have c0 := S2.c0
    have c1 := S2.c1
    have c2 := S2.c2
    have c3 := S2.c3
    have c4 := S2.c4
    have HZ := Lib.hid b1
    clear S1 S2 b1
    go_wp2_with fail
    clear c0 c1 c2 c3 c4
    refine (sIsState_any _ _ _ _ _ _).mono ?_
    rintro e w2 ⟨rfl, b2⟩
    rw [HB.out]
    have HZ1 := Lib.hid (below_two HZ.out b2)
    clear HZ b2
    go_upto_region 3 with fail
    have H1 := Lib.hid (Held.still (E := 2) Held.start (Below.drew (Below.refl w2.heap.size w2)))
    have K := fun (w' : World) (h : Below w2.heap.size w2 w') => cells_two (below_two HZ1.out h)
    go_region_held3 (fun w' => w'.cell? ⟨w.heap.size, 0, none⟩ = some (.int .i64 t) ∧ w'.cell? ⟨w.heap.size, 1, none⟩ = some (.int .i64 m) ∧ w'.cell? ⟨w.heap.size, 2, none⟩ = some (.int .i64 r) ∧ w'.cell? ⟨w.heap.size, 3, none⟩ = some (.int .i64 s) ∧ w'.cell? ⟨w.heap.size, 4, none⟩ = some (.int .i64 k) ∧ w'.cell? ⟨w.heap.size + 1, 0, none⟩ = some (.int .i64 t') ∧ w'.cell? ⟨w.heap.size + 1, 1, none⟩ = some (.int .i64 m') ∧ w'.cell? ⟨w.heap.size + 1, 2, none⟩ = some (.int .i64 r') ∧ w'.cell? ⟨w.heap.size + 1, 3, none⟩ = some (.int .i64 s') ∧ w'.cell? ⟨w.heap.size + 1, 4, none⟩ = some (.int .i64 k'))
      (first | exact K _ H1.out.below | exact K _ H2.out.below | exact K _ H3.out.below | exact K _ H4.out.below)
      (first
        | (go_at_call 40; (with_reducible refine (l04Bits_any t m r s k _).mono ?_); rintro e w3 m3; rw [HX.out] at m3; obtain ⟨p3, c3, rfl, o3, -, b3⟩ := m3.get; have H2 := Lib.hid (H1.out.make o3 b3); clear o3 b3 m3)
        | (go_at_call 40; (with_reducible refine (l04Bits_any t' m' r' s' k' _).mono ?_); rintro e w4 m4; rw [HY.out] at m4; obtain ⟨p4, c4, rfl, o4, -, b4⟩ := m4.get; have H3 := Lib.hid (H2.out.make o4 b4); clear o4 b4 m4)
        | (go_at_call 39; have R1 := H3.out.rd 1 rfl rfl; have R0 := H3.out.rd 0 rfl rfl; (with_reducible refine (differ_state _ _ _ _ _ _ xs ys zs _ R1 R0 ?_ ?_ HZZ.out).mono ?_); (· have := HLX.out; omega); (· have := HLY.out; omega); rintro e w5 m5; obtain ⟨p5, c5, rfl, o5, -, b5⟩ := m5.get; have H4 := Lib.hid (H3.out.make o5 b5); clear o5 b5 m5 R0 R1))
    go_wp2_with fail
    go_ret2
    exact ⟨rfl, below_box2 (below_two HZ1.out H4.out.below)⟩
end Go.Proofs.Ytenlfonekcpblaa
