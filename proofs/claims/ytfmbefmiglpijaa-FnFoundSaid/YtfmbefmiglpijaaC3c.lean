/-
  Chapter 3: OrderOf on both sides.
-/
import Derived.Test.YtfmbefmiglpijaaC3b
namespace Go.Proofs.Ytfmbefmiglpijaa
open Go.RowKit

theorem orderOf_1 {wd p : Int} (h : isCrc wd p = false) : orderOf wd p = (0, 1) := by unfold orderOf; rw [if_pos h]
theorem orderOf_0 {W : Nat} {g : BitVec W} (h : isCrc (W : Int) (g.toNat : Int) = true) : orderOf (W : Int) (g.toNat : Int) = if order g ≤ 5000 then ((order g : Int), 0) else (0, 3) := by
  unfold orderOf
  rw [if_neg (by simp [h]), Int.toNat_natCast, Int.toNat_natCast, show BitVec.ofNat W g.toNat = g from by simp]
/-- spec.OrderOf. -/
theorem sOrderOf_any (wd p : Int) (w : World) :
    Calls Try.prog 29 #[.agg #[.int .i64 wd, .int .i64 p]] w fun e w' => e = .returned (.tuple #[.int .i64 (orderOf wd p).1, .int .i64 (orderOf wd p).2]) ∧ Below w.heap.size w w' := by
  have hb0 : Below w.heap.size w (w.alloc (.cells #[.int .i64 wd, .int .i64 p] 25)) := (Below.refl _ _).alloc (Nat.le_refl _) _
  have HB := Lib.hid hb0; clear hb0
  have hsc := struct_cells (w := w) wd p 25
  rcases hI : isCrc wd p with _ | _
  · rw [orderOf_1 hI]
    have HI := Lib.hid hI; clear hI hsc
    go_enter Try.func29, Try.ntmps29
    go_wp2_with fail
    refine (sIsCrc_any _ _ _).mono ?_
    rintro e w1 ⟨rfl, b1⟩
    rw [HI.out]
    go_wp2
    go_ret2
    exact ⟨rfl, below_two HB.out b1⟩
  · obtain ⟨W, g, rfl, h1, h2, rfl, -⟩ := isCrc_get hI
    rw [orderOf_0 hI]
    have HI := Lib.hid hI; clear hI
    obtain ⟨hsc0, hsc1⟩ := hsc
    obtain ⟨R, hR⟩ : ∃ R : Nat, R = order g := ⟨_, rfl⟩
    rw [← hR]
    have HR := Lib.hid hR; clear hR
    by_cases hl : R ≤ 5000
    · rw [if_pos hl]
      go_enter Try.func29, Try.ntmps29
      go_wp2_with fail
      refine (sIsCrc_any _ _ _).mono ?_
      rintro e w1 ⟨rfl, b1⟩
      rw [HI.out]
      have hc0 := (b1.cell (p := ⟨w.heap.size, 0, none⟩) (World.block_lt_of_cell? _ _ hsc0)).trans hsc0
      have hc1 := (b1.cell (p := ⟨w.heap.size, 1, none⟩) (World.block_lt_of_cell? _ _ hsc1)).trans hsc1
      have b2 := below_two HB.out b1
      clear hsc0 hsc1
      go_wp2_with fail
      refine (order_any W g _ h1 h2).mono ?_
      rintro e w3 ⟨rfl, b3⟩
      rw [← HR.out]
      go_wp2
      go_ret2
      exact ⟨rfl, below_two b2 b3⟩
    · rw [if_neg hl]
      have hl' : 5000 < R := by omega
      clear hl
      go_enter Try.func29, Try.ntmps29
      go_wp2_with fail
      refine (sIsCrc_any _ _ _).mono ?_
      rintro e w1 ⟨rfl, b1⟩
      rw [HI.out]
      have hc0 := (b1.cell (p := ⟨w.heap.size, 0, none⟩) (World.block_lt_of_cell? _ _ hsc0)).trans hsc0
      have hc1 := (b1.cell (p := ⟨w.heap.size, 1, none⟩) (World.block_lt_of_cell? _ _ hsc1)).trans hsc1
      have b2 := below_two HB.out b1
      clear hsc0 hsc1
      go_wp2_with fail
      refine (order_any W g _ h1 h2).mono ?_
      rintro e w3 ⟨rfl, b3⟩
      rw [← HR.out]
      go_wp2
      go_ret2
      exact ⟨rfl, below_two b2 b3⟩

/-- A one fed into the register 0: the polynomial. -/
theorem afterFirst_any (p W : Nat) (g : BitVec W) (w : World) (h1 : 3 ≤ W) (h2 : W ≤ 24) (hc : CodeAt w p W g.toNat) :
    Calls Try.prog 68 #[.pointer (some ⟨p, 0, none⟩), .int .i64 0, .int .i64 1] w fun e w' => e = .returned (.int .i64 g.toNat) ∧ w = w' := by
  have h := afterBit_any p W g 0#W 1 w h1 h2 hc (by omega)
  rw [show (((0#W).toNat : Nat) : Int) = 0 from by simp] at h
  rwa [show fb g 0#W (decide ((1 : Int) = 1)) = g from fb_zero_true] at h
theorem afterNought_any (p W : Nat) (g r : BitVec W) (w : World) (h1 : 3 ≤ W) (h2 : W ≤ 24) (hc : CodeAt w p W g.toNat) :
    Calls Try.prog 68 #[.pointer (some ⟨p, 0, none⟩), .int .i64 r.toNat, .int .i64 0] w fun e w' => e = .returned (.int .i64 (fb g r false).toNat) ∧ w = w' := by
  have h := afterBit_any p W g r 0 w h1 h2 hc (by omega)
  rwa [show decide ((0 : Int) = 1) = false from by decide] at h
theorem afterOne_any (p W : Nat) (g r : BitVec W) (w : World) (h1 : 3 ≤ W) (h2 : W ≤ 24) (hc : CodeAt w p W g.toNat) :
    Calls Try.prog 68 #[.pointer (some ⟨p, 0, none⟩), .int .i64 r.toNat, .int .i64 1] w fun e w' => e = .returned (.int .i64 (fb g r true).toNat) ∧ w = w' := by
  have h := afterBit_any p W g r 1 w h1 h2 hc (by omega)
  rwa [show decide ((1 : Int) = 1) = true from by decide] at h
theorem one_zero {W : Nat} (g r : BitVec W) : (((fb g r true).toNat : Int) == 0) = decide (fb g r false = g) := by
  rw [beq_dec, decide_eq_decide, fb_true]
  constructor
  · intro h
    have h : fb g r false ^^^ g = 0#W := BitVec.eq_of_toNat_eq (by rw [show (0#W).toNat = 0 from by simp]; omega)
    have := congrArg (· ^^^ g) h
    simpa [BitVec.xor_assoc] using this
  · intro h; rw [h, BitVec.xor_self]; simp

set_option maxRecDepth 200000 in
/-- impl.OrderOf. -/
theorem orderOf_any (wd p : Int) (w : World) :
    Calls Try.prog 28 #[.agg #[.int .i64 wd, .int .i64 p]] w fun e w' => e = .returned (.tuple #[.int .i64 (orderOf wd p).1, .int .i64 (orderOf wd p).2]) ∧ Below w.heap.size w w' := by
  have hb0 : Below w.heap.size w (w.alloc (.cells #[.int .i64 wd, .int .i64 p] 25)) := (Below.refl _ _).alloc (Nat.le_refl _) _
  have HB := Lib.hid hb0; clear hb0
  have hsc := struct_cells (w := w) wd p 25
  rcases hI : isCrc wd p with _ | _
  · rw [orderOf_1 hI]
    have HI := Lib.hid hI; clear hI hsc
    go_enter Try.func28, Try.ntmps28
    go_wp2_with fail
    refine (isCrc_any _ _ _).mono ?_
    rintro e w1 ⟨rfl, b1⟩
    rw [HI.out]
    go_wp2
    go_ret2
    exact ⟨rfl, below_two HB.out b1⟩
  · obtain ⟨W, g, rfl, h1, h2, rfl, -⟩ := isCrc_get hI
    obtain ⟨R, hR⟩ : ∃ R : Int × Int, R = orderOf (W : Int) (g.toNat : Int) := ⟨_, rfl⟩
    rw [← hR]
    have hR2 := hR
    rw [orderOf_0 hI] at hR2
    have HR := Lib.hid hR2; clear hR hR2
    have HI := Lib.hid hI; clear hI
    obtain ⟨hsc0, hsc1⟩ := hsc
    go_enter Try.func28, Try.ntmps28
    go_wp2_with fail
    refine (isCrc_any _ _ _).mono ?_
    rintro e w1 ⟨rfl, b1⟩
    rw [HI.out]
    have hc0 := (b1.cell (p := ⟨w.heap.size, 0, none⟩) (World.block_lt_of_cell? _ _ hsc0)).trans hsc0
    have hc1 := (b1.cell (p := ⟨w.heap.size, 1, none⟩) (World.block_lt_of_cell? _ _ hsc1)).trans hsc1
    have B2 := Lib.hid (below_two HB.out b1)
    clear hsc0 hsc1 b1
    go_wp2_with fail
    clear hc0 hc1
    refine (newCode_any W g _ h1 h2).mono ?_
    rintro e w2 ⟨p2, rfl, hcy, -, b3⟩
    have B4 := Lib.hid (below_two B2.out b3)
    have HC := Lib.hid hcy.code; clear hcy b3
    go_wp2_with fail
    refine (afterFirst_any p2 W g _ h1 h2 HC.out).mono ?_
    rintro e w' ⟨rfl, rfl⟩
    go_wp2
    go_loop [5, 6] (fun x i => ∃ k : Nat, 1 ≤ k ∧ k ≤ 5001 ∧ i = .int .i64 k ∧ x = .int .i64 (tail g (k - 1)).toNat ∧ Hid (∀ m, 1 ≤ m → m < k → tail g m ≠ g)) (fun _ i => 5001 - (intOf i).toNat)
    case atStart => exact ⟨1, by omega, by omega, rfl, rfl, fun m h3 h4 => absurd h3 (by omega)⟩
    case round =>
      obtain ⟨k, hk1, hk2, rfl, rfl, HN⟩ := hrel
      by_cases hlt : k ≤ 5000
      · obtain ⟨j, rfl⟩ : ∃ j, k = j + 1 := ⟨k - 1, by omega⟩
        rw [show j + 1 - 1 = j from rfl]
        go_wp2_with fail
        refine (afterOne_any p2 W g (tail g j) _ h1 h2 HC.out).mono ?_
        rintro e w' ⟨rfl, rfl⟩
        have ht := one_zero g (tail g j)
        rw [← tail_succ] at ht
        by_cases he : tail g (j + 1) = g
        · rw [decide_eq_true he] at ht
          have hfin : R = (((j + 1 : Nat) : Int), 0) := by
            rw [HR.out, show order g = j + 1 from ord_hit 5000 1 (j + 1) (by omega) (by omega) HN.out he, if_pos hlt]
          have HF := Lib.hid hfin; clear hfin he
          go_wp2
          go_ret2
          rw [HF.out]
          exact ⟨rfl, B4.out⟩
        · rw [decide_eq_false he] at ht
          have hfin : ∀ m, 1 ≤ m → m < j + 1 + 1 → tail g m ≠ g := fun m h3 h4 => by
            by_cases e : m = j + 1
            · rw [e]; exact he
            · exact HN.out m h3 (by omega)
          have HF := Lib.hid hfin; clear hfin he
          go_wp2_with fail
          refine (afterNought_any p2 W g (tail g j) _ h1 h2 HC.out).mono ?_
          rintro e w' ⟨rfl, rfl⟩
          rw [← tail_succ]
          clear ht
          go_wp2
          go_round
          case rel => exact ⟨j + 1 + 1, by omega, by omega, by go_num, rfl, HF⟩
          case measure => simp [intOf]; omega
      · have hkn : k = 5001 := by omega
        subst hkn
        have hfin : R = (0, 3) := by
          rw [HR.out, show order g = 5001 from ord_none 5000 1 (fun m h3 h4 => HN.out m h3 (by omega)), if_neg (by omega)]
        have HF := Lib.hid hfin; clear hfin
        go_wp2
        go_ret2
        rw [HF.out]
        exact ⟨rfl, B4.out⟩
end Go.Proofs.Ytfmbefmiglpijaa
