/-
  Chapter 4: spec.l04Draw.
  Chapter 4: spec.l04DrawAny.
  Chapter 4: spec.DrawStateDistance.
  What FnStateDistances says, as plain facts on numbers.
  Chapter 4: spec.DrawAdvanceState.
  What FnAdvanced says, as plain facts on numbers.
-/
import Derived.Test.YtbdfnkhmnglpbaaFourA
import Derived.Test.YtbdfnkhmnglpbaaDrawA
import Derived.Test.YtbdfnkhmnglpbaaDrawC
import Derived.Deep.RegionHeld3
import Derived.Deep.RegionWith
namespace Go.Proofs.Ytbdfnkhmnglpbaa
section
open Go.RowKit

/-- What a draw of a state leaves: some state; of old memory only the source has been written. -/
def DrawnState (T : Nat) (w : World) (p : Nat) (e : Ending) (w' : World) : Prop :=
  ∃ t m r s k : Int, e = .returned (.agg #[.int .i64 t, .int .i64 m, .int .i64 r, .int .i64 s, .int .i64 k]) ∧ Src T w' p ∧ w.grownBy w' (some p)

set_option maxHeartbeats 1000000 in
theorem l04Draw_any (p : Nat) (w : World) (hs : Src 133 w p) : Calls Try.prog 116 #[.pointer (some ⟨p, 0, none⟩)] w (DrawnState 133 w p) := by
  have hp := hs.lt
  have HA := Lib.hid (Below.alloc (Below.refl w.heap.size w) (Nat.le_refl _) (.cells #[.int .i64 0, .int .i64 0, .int .i64 0, .int .i64 0, .int .i64 0] 25))
  have R0 := Lib.hid (StateAt.new (T := 25) (t := 0) (m := 0) (r := 0) (s := 0) (k := 0) w)
  have S0 := Lib.hid (hs.below HA.out)
  have G0 := Lib.hid (grown_of_below (g := some p) HA.out)
  have hltR : w.heap.size < (w.alloc (.cells #[.int .i64 0, .int .i64 0, .int .i64 0, .int .i64 0, .int .i64 0] 25)).heap.size := by simp
  clear hs
  go_enter Try.func116, Try.ntmps116
  go_wp2_with fail
  clear HA
  generalize w.alloc (.cells #[.int .i64 0, .int .i64 0, .int .i64 0, .int .i64 0, .int .i64 0] 25) = w0 at S0 R0 G0 hltR ⊢
  refine (next_any _ _ _ S0.out (by omega)).mono ?_
  rintro e w1 ⟨a, rfl, a0, a1, -, hs1, g1⟩
  have R1 := Lib.hid (R0.out.grown g1 (by simp; omega))
  have G1 := Lib.hid (grown_trans G0.out g1)
  have S1 := Lib.hid hs1
  clear hs1 g1 S0 G0 R0 a0 a1
  go_wp2_with fail
  refine (next_any _ _ _ S1.out (by omega)).mono ?_
  rintro e w2 ⟨b, rfl, b0, b1, -, hs2, g2⟩
  have R2 := Lib.hid (R1.out.grown g2 (by simp; omega))
  have G2 := Lib.hid (grown_trans G1.out g2)
  have S2 := Lib.hid hs2
  clear hs2 g2 S1 G1 R1 b0 b1
  go_wp2_with fail
  refine (next_any _ _ _ S2.out (by omega)).mono ?_
  rintro e w3 ⟨c, rfl, c0, c1, -, hs3, g3⟩
  have R3 := Lib.hid (R2.out.grown g3 (by simp; omega))
  have G3 := Lib.hid (grown_trans G2.out g3)
  have S3 := Lib.hid hs3
  clear hs3 g3 S2 G2 R2 c0 c1
  go_wp2_with fail
  refine (next_any _ _ _ S3.out (by omega)).mono ?_
  rintro e w4 ⟨d, rfl, d0, d1, -, hs4, g4⟩
  have R4 := Lib.hid (R3.out.grown g4 (by simp; omega))
  have G4 := Lib.hid (grown_trans G3.out g4)
  have S4 := Lib.hid hs4
  clear hs4 g4 S3 G3 R3 d0 d1
  go_wp2_with fail
  refine (next_any _ _ _ S4.out (by omega)).mono ?_
  rintro e w5 ⟨f, rfl, f0, f1, -, hs5, g5⟩
  have R5 := Lib.hid (R4.out.grown g5 (by simp; omega))
  have G5 := Lib.hid (grown_trans G4.out g5)
  have S5 := Lib.hid hs5
  clear hs5 g5 S4 G4 R4 f0 f1
  have hltR : w.heap.size < w5.heap.size := R5.out.lt
  go_wp2_with fail
  refine (next_any _ _ _ (S5.out.below (Below.alloc (Below.refl w5.heap.size w5) (Nat.le_refl _) (.cells #[.int .i64 a, .int .i64 b, .int .i64 c, .int .i64 d, .int .i64 f] 25))) (by omega)).mono ?_
  rintro e w6 ⟨y, rfl, y0, y1, -, hs6, g6⟩
  have hpw := S5.out.lt
  have R6 := Lib.hid ((R5.out.below (Below.alloc (Below.refl w5.heap.size w5) (Nat.le_refl _) (.cells #[.int .i64 a, .int .i64 b, .int .i64 c, .int .i64 d, .int .i64 f] 25)) R5.out.lt).grown g6 (by simp; omega))
  have B6 := Lib.hid ((StateAt.new (T := 25) (t := a) (m := b) (r := c) (s := d) (k := f) w5).grown g6 (by simp; omega))
  have G6 := Lib.hid (grown_trans (grown_trans G5.out (grown_of_below (Below.alloc (Below.refl w5.heap.size w5) (Nat.le_refl _) (.cells #[.int .i64 a, .int .i64 b, .int .i64 c, .int .i64 d, .int .i64 f] 25)))) g6)
  have S6 := Lib.hid hs6
  clear hs6 g6 S5 G5 R5 y0 y1
  obtain ⟨C, hC⟩ : ∃ C, C = w5.heap.size := ⟨_, rfl⟩
  rw [← hC] at B6 hpw ⊢
  have hCw : w.heap.size < C := by have := hltR; omega
  clear hC
  by_cases h0 : y = 0
  · subst h0
    go_wp2_with fail
    refine (next_any _ _ _ S6.out (by omega)).mono ?_
    rintro e w7 ⟨a', rfl, a'0, a'1, -, hs7, g7⟩
    have R7 := Lib.hid (R6.out.grown g7 (by simp; omega))
    have B7 := Lib.hid (B6.out.grown g7 (by simp; omega))
    have G7 := Lib.hid (grown_trans G6.out g7)
    have S7 := Lib.hid hs7
    clear hs7 g7 S6 G6 R6 B6
    replace a'1 := a'1 (by omega)
    go_wp2_with fail
    refine (next_any _ _ _ S7.out (by omega)).mono ?_
    rintro e w8 ⟨b', rfl, b'0, b'1, -, hs8, g8⟩
    have R8 := Lib.hid (R7.out.grown g8 (by simp; omega))
    have B8 := Lib.hid (B7.out.grown g8 (by simp; omega))
    have G8 := Lib.hid (grown_trans G7.out g8)
    have S8 := Lib.hid hs8
    clear hs8 g8 S7 G7 R7 B7 b'0 b'1
    go_wp2_with fail
    refine (next_any _ _ _ S8.out (by omega)).mono ?_
    rintro e w9 ⟨c', rfl, c'0, c'1, -, hs9, g9⟩
    have R9 := Lib.hid (R8.out.grown g9 (by simp; omega))
    have B9 := Lib.hid (B8.out.grown g9 (by simp; omega))
    have G9 := Lib.hid (grown_trans G8.out g9)
    have S9 := Lib.hid hs9
    clear hs9 g9 S8 G8 R8 B8 c'0 c'1
    go_wp2_with fail
    refine (next_any _ _ _ S9.out (by omega)).mono ?_
    rintro e w10 ⟨d', rfl, d'0, d'1, -, hs10, g10⟩
    have R10 := Lib.hid (R9.out.grown g10 (by simp; omega))
    have B10 := Lib.hid (B9.out.grown g10 (by simp; omega))
    have G10 := Lib.hid (grown_trans G9.out g10)
    have S10 := Lib.hid hs10
    clear hs10 g10 S9 G9 R9 B9 d'0 d'1
    go_wp2_with fail
    refine (next_any _ _ _ S10.out (by omega)).mono ?_
    rintro e w11 ⟨f', rfl, f'0, f'1, -, hs11, g11⟩
    have R11 := Lib.hid (R10.out.grown g11 (by simp; omega))
    have B11 := Lib.hid (B10.out.grown g11 (by simp; omega))
    have G11 := Lib.hid (grown_trans G10.out g11)
    have S11 := Lib.hid hs11
    clear hs11 g11 S10 G10 R10 B10
    replace f'1 := f'1 (by omega)
    have xc0 := B11.out.c0
    have xc1 := B11.out.c1
    have xc2 := B11.out.c2
    have xc3 := B11.out.c3
    have xc4 := B11.out.c4
    have xf0 := B11.out.f 0
    have xf1 := B11.out.f 1
    have xf2 := B11.out.f 2
    have xf3 := B11.out.f 3
    have xf4 := B11.out.f 4
    go_upto_region 4 with fail
    clear xc0 xc1 xc2 xc3 xc4 xf0 xf1 xf2 xf3 xf4
    change Code.wp _ _ _ _ (setFive w11 C (65535 - a') b' c' d' (4294967295 - f'))
    have B12 := Lib.hid (StateAt.five B11.out (65535 - a') b' c' d' (4294967295 - f'))
    have BF := below_five (B := C) (w := w11) (b := C) (by omega) (65535 - a') b' c' d' (4294967295 - f')
    have S12 := Lib.hid (Src.belowB S11.out BF hpw)
    have R12 := Lib.hid (StateAt.below R11.out BF hCw)
    have G12 := Lib.hid (grown_step G11.out BF (by omega))
    generalize setFive w11 C (65535 - a') b' c' d' (4294967295 - f') = w12 at B12 S12 R12 G12 ⊢
    clear BF B11 S11 R11 G11
    have xc0 := B12.out.c0
    have xc1 := B12.out.c1
    have xc2 := B12.out.c2
    have xc3 := B12.out.c3
    have xc4 := B12.out.c4
    have rc0 := R12.out.c0
    have rc1 := R12.out.c1
    have rc2 := R12.out.c2
    have rc3 := R12.out.c3
    have rc4 := R12.out.c4
    have rf0 := R12.out.f 0
    have rf1 := R12.out.f 1
    have rf2 := R12.out.f 2
    have rf3 := R12.out.f 3
    have rf4 := R12.out.f 4
    go_wp2_with fail
    clear xc0 xc1 xc2 xc3 xc4
    clear rc0 rc1 rc2 rc3 rc4 rf0 rf1 rf2 rf3 rf4
    change bodyPost _ _ _ _ _ (setFive w12 w.heap.size (65535 - a') b' c' d' (4294967295 - f'))
    have SF := StateAt.five R12.out (65535 - a') b' c' d' (4294967295 - f')
    have BF := below_five (B := w.heap.size) (w := w12) (b := w.heap.size) (by omega) (65535 - a') b' c' d' (4294967295 - f')
    have SS := Src.belowB S12.out BF hp
    have GG := grown_step G12.out BF (Nat.le_refl _)
    generalize setFive w12 w.heap.size (65535 - a') b' c' d' (4294967295 - f') = wz at SF SS GG ⊢
    have e0 := SF.c0
    have e1 := SF.c1
    have e2 := SF.c2
    have e3 := SF.c3
    have e4 := SF.c4
    exact bodyPost_ret (v := .agg #[.int .i64 (65535 - a'), .int .i64 b', .int .i64 c', .int .i64 d', .int .i64 (4294967295 - f')]) (by simp [results, Try.results116, go_sem, e0, e1, e2, e3, e4]) rfl ⟨_, _, _, _, _, rfl, SS, GG⟩
  · have t0 : (y == 0) = false := by simp [h0]
    clear h0
    have xc0 := B6.out.c0
    have xc1 := B6.out.c1
    have xc2 := B6.out.c2
    have xc3 := B6.out.c3
    have xc4 := B6.out.c4
    have rc0 := R6.out.c0
    have rc1 := R6.out.c1
    have rc2 := R6.out.c2
    have rc3 := R6.out.c3
    have rc4 := R6.out.c4
    have rf0 := R6.out.f 0
    have rf1 := R6.out.f 1
    have rf2 := R6.out.f 2
    have rf3 := R6.out.f 3
    have rf4 := R6.out.f 4
    go_wp2_with fail
    clear xc0 xc1 xc2 xc3 xc4
    clear rc0 rc1 rc2 rc3 rc4 rf0 rf1 rf2 rf3 rf4
    change bodyPost _ _ _ _ _ (setFive w6 w.heap.size a b c d f)
    have SF := StateAt.five R6.out a b c d f
    have BF := below_five (B := w.heap.size) (w := w6) (b := w.heap.size) (by omega) a b c d f
    have SS := Src.belowB S6.out BF hp
    have GG := grown_step G6.out BF (Nat.le_refl _)
    generalize setFive w6 w.heap.size a b c d f = wz at SF SS GG ⊢
    have e0 := SF.c0
    have e1 := SF.c1
    have e2 := SF.c2
    have e3 := SF.c3
    have e4 := SF.c4
    exact bodyPost_ret (v := .agg #[.int .i64 a, .int .i64 b, .int .i64 c, .int .i64 d, .int .i64 f]) (by simp [results, Try.results116, go_sem, e0, e1, e2, e3, e4]) rfl ⟨_, _, _, _, _, rfl, SS, GG⟩
end

section
open Go.RowKit

set_option maxHeartbeats 2000000 in
theorem l04DrawAny_any (p : Nat) (w : World) (hs : Src 133 w p) : Calls Try.prog 73 #[.pointer (some ⟨p, 0, none⟩)] w (DrawnState 133 w p) := by
  have hp := hs.lt
  have HA := Lib.hid (Below.alloc (Below.refl w.heap.size w) (Nat.le_refl _) (.cells #[.int .i64 0, .int .i64 0, .int .i64 0, .int .i64 0, .int .i64 0] 25))
  have R0 := Lib.hid (StateAt.new (T := 25) (t := 0) (m := 0) (r := 0) (s := 0) (k := 0) w)
  have S0 := Lib.hid (hs.below HA.out)
  have G0 := Lib.hid (grown_of_below (g := some p) HA.out)
  clear hs
  go_enter Try.func73, Try.ntmps73
  go_wp2_with fail
  clear HA
  generalize w.alloc (.cells #[.int .i64 0, .int .i64 0, .int .i64 0, .int .i64 0, .int .i64 0] 25) = w0 at S0 R0 G0 ⊢
  refine (l04Draw_any _ _ S0.out).mono ?_
  rintro e w1 ⟨a, b, c, d, f, rfl, hs1, g1⟩
  have R1 := Lib.hid (R0.out.grown g1 (by simp; omega))
  have G1 := Lib.hid (grown_trans G0.out g1)
  have S1 := Lib.hid hs1
  clear hs1 g1 S0 G0 R0
  have hltR : w.heap.size < w1.heap.size := R1.out.lt
  go_wp2_with fail
  refine (next_any _ _ _ (S1.out.below (Below.alloc (Below.refl w1.heap.size w1) (Nat.le_refl _) (.cells #[.int .i64 a, .int .i64 b, .int .i64 c, .int .i64 d, .int .i64 f] 25))) (by omega)).mono ?_
  rintro e w2 ⟨y, rfl, y0, y1, -, hs2, g2⟩
  have hpw := S1.out.lt
  have R2 := Lib.hid ((R1.out.below (Below.alloc (Below.refl w1.heap.size w1) (Nat.le_refl _) (.cells #[.int .i64 a, .int .i64 b, .int .i64 c, .int .i64 d, .int .i64 f] 25)) R1.out.lt).grown g2 (by simp; omega))
  have B2 := Lib.hid ((StateAt.new (T := 25) (t := a) (m := b) (r := c) (s := d) (k := f) w1).grown g2 (by simp; omega))
  have G2 := Lib.hid (grown_trans (grown_trans G1.out (grown_of_below (Below.alloc (Below.refl w1.heap.size w1) (Nat.le_refl _) (.cells #[.int .i64 a, .int .i64 b, .int .i64 c, .int .i64 d, .int .i64 f] 25)))) g2)
  have S2 := Lib.hid hs2
  clear hs2 g2 S1 G1 R1 y0 y1
  obtain ⟨C, hC⟩ : ∃ C, C = w1.heap.size := ⟨_, rfl⟩
  rw [← hC] at B2 hpw ⊢
  have hCw : w.heap.size < C := by have := hltR; omega
  clear hC
  clear hltR
  by_cases h0 : y = 0
  · subst h0
    go_wp2_with fail
    refine (next_any _ _ _ (S2.out.below (Below.alloc (Below.refl w2.heap.size w2) (Nat.le_refl _) (.cells #[.int .i64 (-1), .int .i64 65535, .int .i64 65536] 2))) (by omega)).mono ?_
    rintro e w3 ⟨z, rfl, z0, z1, -, hs3, g3⟩
    replace z1 := z1 (by omega)
    obtain ⟨z, rfl⟩ := Int.eq_ofNat_of_zero_le z0
    have hz : z < 3 := by omega
    obtain ⟨v, hv⟩ : ∃ v : Int, (#[.int .i64 (-1), .int .i64 65535, .int .i64 65536] : Array Value)[z]? = some (.int .i64 v) := by
      match z, hz with
      | 0, _ => exact ⟨_, rfl⟩
      | 1, _ => exact ⟨_, rfl⟩
      | 2, _ => exact ⟨_, rfl⟩
    have hct := (table_cell g3 S2.out.lt z).trans hv
    have R3 := Lib.hid ((R2.out.below (Below.alloc (Below.refl w2.heap.size w2) (Nat.le_refl _) (.cells #[.int .i64 (-1), .int .i64 65535, .int .i64 65536] 2)) R2.out.lt).grown g3 (by simp; omega))
    have B3 := Lib.hid ((B2.out.below (Below.alloc (Below.refl w2.heap.size w2) (Nat.le_refl _) (.cells #[.int .i64 (-1), .int .i64 65535, .int .i64 65536] 2)) B2.out.lt).grown g3 (by simp; omega))
    have G3 := Lib.hid (grown_trans (grown_trans G2.out (grown_of_below (Below.alloc (Below.refl w2.heap.size w2) (Nat.le_refl _) (.cells #[.int .i64 (-1), .int .i64 65535, .int .i64 65536] 2)))) g3)
    have S3 := Lib.hid hs3
    clear hs3 g3 S2 G2 R2 B2 z0 hv hz
    have cc := B3.out.c0
    have ff := B3.out.f 0
    go_upto_region 13 with fail
    clear cc ff hct
    have B4 := Lib.hid (StateAt.set0 B3.out v)
    have BF : Below C w3 (w3.setCell ⟨C, 0, none⟩ (.int .i64 v)) := (Below.refl C w3).setCell (p := ⟨C, 0, none⟩) (Nat.le_refl _) (.int .i64 v)
    have S4 := Lib.hid (Src.belowB S3.out BF hpw)
    have R4 := Lib.hid (StateAt.below R3.out BF hCw)
    have G4 := Lib.hid (grown_step G3.out BF (by omega))
    generalize w3.setCell ⟨C, 0, none⟩ (.int .i64 v) = w4 at B4 S4 R4 G4 ⊢
    clear BF B3 S3 R3 G3
    have xc0 := B4.out.c0
    have xc1 := B4.out.c1
    have xc2 := B4.out.c2
    have xc3 := B4.out.c3
    have xc4 := B4.out.c4
    have rc0 := R4.out.c0
    have rc1 := R4.out.c1
    have rc2 := R4.out.c2
    have rc3 := R4.out.c3
    have rc4 := R4.out.c4
    have rf0 := R4.out.f 0
    have rf1 := R4.out.f 1
    have rf2 := R4.out.f 2
    have rf3 := R4.out.f 3
    have rf4 := R4.out.f 4
    go_wp2_with fail
    clear xc0 xc1 xc2 xc3 xc4
    clear rc0 rc1 rc2 rc3 rc4 rf0 rf1 rf2 rf3 rf4
    change bodyPost _ _ _ _ _ (setFive w4 w.heap.size v b c d f)
    have SF := StateAt.five R4.out v b c d f
    have BF := below_five (B := w.heap.size) (w := w4) (b := w.heap.size) (by omega) v b c d f
    have SS := Src.belowB S4.out BF hp
    have GG := grown_step G4.out BF (Nat.le_refl _)
    generalize setFive w4 w.heap.size v b c d f = wz at SF SS GG ⊢
    have e0 := SF.c0
    have e1 := SF.c1
    have e2 := SF.c2
    have e3 := SF.c3
    have e4 := SF.c4
    exact bodyPost_ret (v := .agg #[.int .i64 v, .int .i64 b, .int .i64 c, .int .i64 d, .int .i64 f]) (by simp [results, Try.results73, go_sem, e0, e1, e2, e3, e4]) rfl ⟨_, _, _, _, _, rfl, SS, GG⟩
  have t0 : (y == 0) = false := by simp [h0]
  by_cases h1 : y = 1
  · subst h1
    clear h0
    go_wp2_with fail
    refine (next_any _ _ _ (S2.out.below (Below.alloc (Below.refl w2.heap.size w2) (Nat.le_refl _) (.cells #[.int .i64 (-1), .int .i64 16] 2))) (by omega)).mono ?_
    rintro e w3 ⟨z, rfl, z0, z1, -, hs3, g3⟩
    replace z1 := z1 (by omega)
    obtain ⟨z, rfl⟩ := Int.eq_ofNat_of_zero_le z0
    have hz : z < 2 := by omega
    obtain ⟨v, hv⟩ : ∃ v : Int, (#[.int .i64 (-1), .int .i64 16] : Array Value)[z]? = some (.int .i64 v) := by
      match z, hz with
      | 0, _ => exact ⟨_, rfl⟩
      | 1, _ => exact ⟨_, rfl⟩
    have hct := (table_cell g3 S2.out.lt z).trans hv
    have R3 := Lib.hid ((R2.out.below (Below.alloc (Below.refl w2.heap.size w2) (Nat.le_refl _) (.cells #[.int .i64 (-1), .int .i64 16] 2)) R2.out.lt).grown g3 (by simp; omega))
    have B3 := Lib.hid ((B2.out.below (Below.alloc (Below.refl w2.heap.size w2) (Nat.le_refl _) (.cells #[.int .i64 (-1), .int .i64 16] 2)) B2.out.lt).grown g3 (by simp; omega))
    have G3 := Lib.hid (grown_trans (grown_trans G2.out (grown_of_below (Below.alloc (Below.refl w2.heap.size w2) (Nat.le_refl _) (.cells #[.int .i64 (-1), .int .i64 16] 2)))) g3)
    have S3 := Lib.hid hs3
    clear hs3 g3 S2 G2 R2 B2 z0 hv hz
    have cc := B3.out.c1
    have ff := B3.out.f 1
    go_upto_region 13 with fail
    clear cc ff hct
    have B4 := Lib.hid (StateAt.set1 B3.out v)
    have BF : Below C w3 (w3.setCell ⟨C, 1, none⟩ (.int .i64 v)) := (Below.refl C w3).setCell (p := ⟨C, 1, none⟩) (Nat.le_refl _) (.int .i64 v)
    have S4 := Lib.hid (Src.belowB S3.out BF hpw)
    have R4 := Lib.hid (StateAt.below R3.out BF hCw)
    have G4 := Lib.hid (grown_step G3.out BF (by omega))
    generalize w3.setCell ⟨C, 1, none⟩ (.int .i64 v) = w4 at B4 S4 R4 G4 ⊢
    clear BF B3 S3 R3 G3
    have xc0 := B4.out.c0
    have xc1 := B4.out.c1
    have xc2 := B4.out.c2
    have xc3 := B4.out.c3
    have xc4 := B4.out.c4
    have rc0 := R4.out.c0
    have rc1 := R4.out.c1
    have rc2 := R4.out.c2
    have rc3 := R4.out.c3
    have rc4 := R4.out.c4
    have rf0 := R4.out.f 0
    have rf1 := R4.out.f 1
    have rf2 := R4.out.f 2
    have rf3 := R4.out.f 3
    have rf4 := R4.out.f 4
    go_wp2_with fail
    clear xc0 xc1 xc2 xc3 xc4
    clear rc0 rc1 rc2 rc3 rc4 rf0 rf1 rf2 rf3 rf4
    change bodyPost _ _ _ _ _ (setFive w4 w.heap.size a v c d f)
    have SF := StateAt.five R4.out a v c d f
    have BF := below_five (B := w.heap.size) (w := w4) (b := w.heap.size) (by omega) a v c d f
    have SS := Src.belowB S4.out BF hp
    have GG := grown_step G4.out BF (Nat.le_refl _)
    generalize setFive w4 w.heap.size a v c d f = wz at SF SS GG ⊢
    have e0 := SF.c0
    have e1 := SF.c1
    have e2 := SF.c2
    have e3 := SF.c3
    have e4 := SF.c4
    exact bodyPost_ret (v := .agg #[.int .i64 a, .int .i64 v, .int .i64 c, .int .i64 d, .int .i64 f]) (by simp [results, Try.results73, go_sem, e0, e1, e2, e3, e4]) rfl ⟨_, _, _, _, _, rfl, SS, GG⟩
  have t1 : (y == 1) = false := by simp [h1]
  by_cases h2 : y = 2
  · subst h2
    clear h0
    clear h1
    go_wp2_with fail
    refine (next_any _ _ _ (S2.out.below (Below.alloc (Below.refl w2.heap.size w2) (Nat.le_refl _) (.cells #[.int .i64 (-1), .int .i64 16] 2))) (by omega)).mono ?_
    rintro e w3 ⟨z, rfl, z0, z1, -, hs3, g3⟩
    replace z1 := z1 (by omega)
    obtain ⟨z, rfl⟩ := Int.eq_ofNat_of_zero_le z0
    have hz : z < 2 := by omega
    obtain ⟨v, hv⟩ : ∃ v : Int, (#[.int .i64 (-1), .int .i64 16] : Array Value)[z]? = some (.int .i64 v) := by
      match z, hz with
      | 0, _ => exact ⟨_, rfl⟩
      | 1, _ => exact ⟨_, rfl⟩
    have hct := (table_cell g3 S2.out.lt z).trans hv
    have R3 := Lib.hid ((R2.out.below (Below.alloc (Below.refl w2.heap.size w2) (Nat.le_refl _) (.cells #[.int .i64 (-1), .int .i64 16] 2)) R2.out.lt).grown g3 (by simp; omega))
    have B3 := Lib.hid ((B2.out.below (Below.alloc (Below.refl w2.heap.size w2) (Nat.le_refl _) (.cells #[.int .i64 (-1), .int .i64 16] 2)) B2.out.lt).grown g3 (by simp; omega))
    have G3 := Lib.hid (grown_trans (grown_trans G2.out (grown_of_below (Below.alloc (Below.refl w2.heap.size w2) (Nat.le_refl _) (.cells #[.int .i64 (-1), .int .i64 16] 2)))) g3)
    have S3 := Lib.hid hs3
    clear hs3 g3 S2 G2 R2 B2 z0 hv hz
    have cc := B3.out.c2
    have ff := B3.out.f 2
    go_upto_region 13 with fail
    clear cc ff hct
    have B4 := Lib.hid (StateAt.set2 B3.out v)
    have BF : Below C w3 (w3.setCell ⟨C, 2, none⟩ (.int .i64 v)) := (Below.refl C w3).setCell (p := ⟨C, 2, none⟩) (Nat.le_refl _) (.int .i64 v)
    have S4 := Lib.hid (Src.belowB S3.out BF hpw)
    have R4 := Lib.hid (StateAt.below R3.out BF hCw)
    have G4 := Lib.hid (grown_step G3.out BF (by omega))
    generalize w3.setCell ⟨C, 2, none⟩ (.int .i64 v) = w4 at B4 S4 R4 G4 ⊢
    clear BF B3 S3 R3 G3
    have xc0 := B4.out.c0
    have xc1 := B4.out.c1
    have xc2 := B4.out.c2
    have xc3 := B4.out.c3
    have xc4 := B4.out.c4
    have rc0 := R4.out.c0
    have rc1 := R4.out.c1
    have rc2 := R4.out.c2
    have rc3 := R4.out.c3
    have rc4 := R4.out.c4
    have rf0 := R4.out.f 0
    have rf1 := R4.out.f 1
    have rf2 := R4.out.f 2
    have rf3 := R4.out.f 3
    have rf4 := R4.out.f 4
    go_wp2_with fail
    clear xc0 xc1 xc2 xc3 xc4
    clear rc0 rc1 rc2 rc3 rc4 rf0 rf1 rf2 rf3 rf4
    change bodyPost _ _ _ _ _ (setFive w4 w.heap.size a b v d f)
    have SF := StateAt.five R4.out a b v d f
    have BF := below_five (B := w.heap.size) (w := w4) (b := w.heap.size) (by omega) a b v d f
    have SS := Src.belowB S4.out BF hp
    have GG := grown_step G4.out BF (Nat.le_refl _)
    generalize setFive w4 w.heap.size a b v d f = wz at SF SS GG ⊢
    have e0 := SF.c0
    have e1 := SF.c1
    have e2 := SF.c2
    have e3 := SF.c3
    have e4 := SF.c4
    exact bodyPost_ret (v := .agg #[.int .i64 a, .int .i64 b, .int .i64 v, .int .i64 d, .int .i64 f]) (by simp [results, Try.results73, go_sem, e0, e1, e2, e3, e4]) rfl ⟨_, _, _, _, _, rfl, SS, GG⟩
  have t2 : (y == 2) = false := by simp [h2]
  by_cases h3 : y = 3
  · subst h3
    clear h0
    clear h1
    clear h2
    go_wp2_with fail
    refine (next_any _ _ _ (S2.out.below (Below.alloc (Below.refl w2.heap.size w2) (Nat.le_refl _) (.cells #[.int .i64 (-1), .int .i64 256] 2))) (by omega)).mono ?_
    rintro e w3 ⟨z, rfl, z0, z1, -, hs3, g3⟩
    replace z1 := z1 (by omega)
    obtain ⟨z, rfl⟩ := Int.eq_ofNat_of_zero_le z0
    have hz : z < 2 := by omega
    obtain ⟨v, hv⟩ : ∃ v : Int, (#[.int .i64 (-1), .int .i64 256] : Array Value)[z]? = some (.int .i64 v) := by
      match z, hz with
      | 0, _ => exact ⟨_, rfl⟩
      | 1, _ => exact ⟨_, rfl⟩
    have hct := (table_cell g3 S2.out.lt z).trans hv
    have R3 := Lib.hid ((R2.out.below (Below.alloc (Below.refl w2.heap.size w2) (Nat.le_refl _) (.cells #[.int .i64 (-1), .int .i64 256] 2)) R2.out.lt).grown g3 (by simp; omega))
    have B3 := Lib.hid ((B2.out.below (Below.alloc (Below.refl w2.heap.size w2) (Nat.le_refl _) (.cells #[.int .i64 (-1), .int .i64 256] 2)) B2.out.lt).grown g3 (by simp; omega))
    have G3 := Lib.hid (grown_trans (grown_trans G2.out (grown_of_below (Below.alloc (Below.refl w2.heap.size w2) (Nat.le_refl _) (.cells #[.int .i64 (-1), .int .i64 256] 2)))) g3)
    have S3 := Lib.hid hs3
    clear hs3 g3 S2 G2 R2 B2 z0 hv hz
    have cc := B3.out.c3
    have ff := B3.out.f 3
    go_upto_region 13 with fail
    clear cc ff hct
    have B4 := Lib.hid (StateAt.set3 B3.out v)
    have BF : Below C w3 (w3.setCell ⟨C, 3, none⟩ (.int .i64 v)) := (Below.refl C w3).setCell (p := ⟨C, 3, none⟩) (Nat.le_refl _) (.int .i64 v)
    have S4 := Lib.hid (Src.belowB S3.out BF hpw)
    have R4 := Lib.hid (StateAt.below R3.out BF hCw)
    have G4 := Lib.hid (grown_step G3.out BF (by omega))
    generalize w3.setCell ⟨C, 3, none⟩ (.int .i64 v) = w4 at B4 S4 R4 G4 ⊢
    clear BF B3 S3 R3 G3
    have xc0 := B4.out.c0
    have xc1 := B4.out.c1
    have xc2 := B4.out.c2
    have xc3 := B4.out.c3
    have xc4 := B4.out.c4
    have rc0 := R4.out.c0
    have rc1 := R4.out.c1
    have rc2 := R4.out.c2
    have rc3 := R4.out.c3
    have rc4 := R4.out.c4
    have rf0 := R4.out.f 0
    have rf1 := R4.out.f 1
    have rf2 := R4.out.f 2
    have rf3 := R4.out.f 3
    have rf4 := R4.out.f 4
    go_wp2_with fail
    clear xc0 xc1 xc2 xc3 xc4
    clear rc0 rc1 rc2 rc3 rc4 rf0 rf1 rf2 rf3 rf4
    change bodyPost _ _ _ _ _ (setFive w4 w.heap.size a b c v f)
    have SF := StateAt.five R4.out a b c v f
    have BF := below_five (B := w.heap.size) (w := w4) (b := w.heap.size) (by omega) a b c v f
    have SS := Src.belowB S4.out BF hp
    have GG := grown_step G4.out BF (Nat.le_refl _)
    generalize setFive w4 w.heap.size a b c v f = wz at SF SS GG ⊢
    have e0 := SF.c0
    have e1 := SF.c1
    have e2 := SF.c2
    have e3 := SF.c3
    have e4 := SF.c4
    exact bodyPost_ret (v := .agg #[.int .i64 a, .int .i64 b, .int .i64 c, .int .i64 v, .int .i64 f]) (by simp [results, Try.results73, go_sem, e0, e1, e2, e3, e4]) rfl ⟨_, _, _, _, _, rfl, SS, GG⟩
  have t3 : (y == 3) = false := by simp [h3]
  by_cases h4 : y = 4
  · subst h4
    clear h0
    clear h1
    clear h2
    clear h3
    go_wp2_with fail
    refine (next_any _ _ _ (S2.out.below (Below.alloc (Below.refl w2.heap.size w2) (Nat.le_refl _) (.cells #[.int .i64 (-1), .int .i64 4294967296] 2))) (by omega)).mono ?_
    rintro e w3 ⟨z, rfl, z0, z1, -, hs3, g3⟩
    replace z1 := z1 (by omega)
    obtain ⟨z, rfl⟩ := Int.eq_ofNat_of_zero_le z0
    have hz : z < 2 := by omega
    obtain ⟨v, hv⟩ : ∃ v : Int, (#[.int .i64 (-1), .int .i64 4294967296] : Array Value)[z]? = some (.int .i64 v) := by
      match z, hz with
      | 0, _ => exact ⟨_, rfl⟩
      | 1, _ => exact ⟨_, rfl⟩
    have hct := (table_cell g3 S2.out.lt z).trans hv
    have R3 := Lib.hid ((R2.out.below (Below.alloc (Below.refl w2.heap.size w2) (Nat.le_refl _) (.cells #[.int .i64 (-1), .int .i64 4294967296] 2)) R2.out.lt).grown g3 (by simp; omega))
    have B3 := Lib.hid ((B2.out.below (Below.alloc (Below.refl w2.heap.size w2) (Nat.le_refl _) (.cells #[.int .i64 (-1), .int .i64 4294967296] 2)) B2.out.lt).grown g3 (by simp; omega))
    have G3 := Lib.hid (grown_trans (grown_trans G2.out (grown_of_below (Below.alloc (Below.refl w2.heap.size w2) (Nat.le_refl _) (.cells #[.int .i64 (-1), .int .i64 4294967296] 2)))) g3)
    have S3 := Lib.hid hs3
    clear hs3 g3 S2 G2 R2 B2 z0 hv hz
    have cc := B3.out.c4
    have ff := B3.out.f 4
    go_upto_region 13 with fail
    clear cc ff hct
    have B4 := Lib.hid (StateAt.set4 B3.out v)
    have BF : Below C w3 (w3.setCell ⟨C, 4, none⟩ (.int .i64 v)) := (Below.refl C w3).setCell (p := ⟨C, 4, none⟩) (Nat.le_refl _) (.int .i64 v)
    have S4 := Lib.hid (Src.belowB S3.out BF hpw)
    have R4 := Lib.hid (StateAt.below R3.out BF hCw)
    have G4 := Lib.hid (grown_step G3.out BF (by omega))
    generalize w3.setCell ⟨C, 4, none⟩ (.int .i64 v) = w4 at B4 S4 R4 G4 ⊢
    clear BF B3 S3 R3 G3
    have xc0 := B4.out.c0
    have xc1 := B4.out.c1
    have xc2 := B4.out.c2
    have xc3 := B4.out.c3
    have xc4 := B4.out.c4
    have rc0 := R4.out.c0
    have rc1 := R4.out.c1
    have rc2 := R4.out.c2
    have rc3 := R4.out.c3
    have rc4 := R4.out.c4
    have rf0 := R4.out.f 0
    have rf1 := R4.out.f 1
    have rf2 := R4.out.f 2
    have rf3 := R4.out.f 3
    have rf4 := R4.out.f 4
    go_wp2_with fail
    clear xc0 xc1 xc2 xc3 xc4
    clear rc0 rc1 rc2 rc3 rc4 rf0 rf1 rf2 rf3 rf4
    change bodyPost _ _ _ _ _ (setFive w4 w.heap.size a b c d v)
    have SF := StateAt.five R4.out a b c d v
    have BF := below_five (B := w.heap.size) (w := w4) (b := w.heap.size) (by omega) a b c d v
    have SS := Src.belowB S4.out BF hp
    have GG := grown_step G4.out BF (Nat.le_refl _)
    generalize setFive w4 w.heap.size a b c d v = wz at SF SS GG ⊢
    have e0 := SF.c0
    have e1 := SF.c1
    have e2 := SF.c2
    have e3 := SF.c3
    have e4 := SF.c4
    exact bodyPost_ret (v := .agg #[.int .i64 a, .int .i64 b, .int .i64 c, .int .i64 d, .int .i64 v]) (by simp [results, Try.results73, go_sem, e0, e1, e2, e3, e4]) rfl ⟨_, _, _, _, _, rfl, SS, GG⟩
  have t4 : (y == 4) = false := by simp [h4]
  clear h0 h1 h2 h3 h4
  have xc0 := B2.out.c0
  have xc1 := B2.out.c1
  have xc2 := B2.out.c2
  have xc3 := B2.out.c3
  have xc4 := B2.out.c4
  have rc0 := R2.out.c0
  have rc1 := R2.out.c1
  have rc2 := R2.out.c2
  have rc3 := R2.out.c3
  have rc4 := R2.out.c4
  have rf0 := R2.out.f 0
  have rf1 := R2.out.f 1
  have rf2 := R2.out.f 2
  have rf3 := R2.out.f 3
  have rf4 := R2.out.f 4
  go_wp2_with fail
  clear xc0 xc1 xc2 xc3 xc4
  clear rc0 rc1 rc2 rc3 rc4 rf0 rf1 rf2 rf3 rf4
  change bodyPost _ _ _ _ _ (setFive w2 w.heap.size a b c d f)
  have SF := StateAt.five R2.out a b c d f
  have BF := below_five (B := w.heap.size) (w := w2) (b := w.heap.size) (by omega) a b c d f
  have SS := Src.belowB S2.out BF hp
  have GG := grown_step G2.out BF (Nat.le_refl _)
  generalize setFive w2 w.heap.size a b c d f = wz at SF SS GG ⊢
  have e0 := SF.c0
  have e1 := SF.c1
  have e2 := SF.c2
  have e3 := SF.c3
  have e4 := SF.c4
  exact bodyPost_ret (v := .agg #[.int .i64 a, .int .i64 b, .int .i64 c, .int .i64 d, .int .i64 f]) (by simp [results, Try.results73, go_sem, e0, e1, e2, e3, e4]) rfl ⟨_, _, _, _, _, rfl, SS, GG⟩
end

section
open Go.RowKit

/-- What a draw of two states leaves. -/
def DrawnTwo (w : World) (e : Ending) (w' : World) : Prop :=
  ∃ t m r s k t' m' r' s' k' : Int, e = .returned (.tuple #[.agg #[.int .i64 t, .int .i64 m, .int .i64 r, .int .i64 s, .int .i64 k], .agg #[.int .i64 t', .int .i64 m', .int .i64 r', .int .i64 s', .int .i64 k']]) ∧ Below w.heap.size w w'
theorem below_cell (D i : Nat) (q : Int) (w : World) : Below D w (w.setCell ⟨D, i, none⟩ (.int .i64 q)) := (Below.refl D w).setCell (p := ⟨D, i, none⟩) (Nat.le_refl _) _
theorem HeldS.stillB {E T : Nat} {w0 w w' : World} {p B : Nat} (h : HeldS E T w0 w p []) (b : Below B w w') (hp : p < B) : HeldS E T w0 w' p [] :=
  ⟨h.below.trans (b.mono (by have := h.lo; omega)), h.lo, h.src.belowB b hp, (fun _ h => by cases h), List.Pairwise.nil⟩
theorem StateAt.drew {T b : Nat} {w : World} {t m r s k : Int} (h : StateAt T w b t m r s k) : StateAt T w.drew b t m r s k := h
theorem StateAt.far5 {T b c : Nat} {w : World} {t m r s k : Int} (h : StateAt T w c t m r s k) (hne : c ≠ b) (t' m' r' s' k' : Int) : StateAt T (setFive w b t' m' r' s' k') c t m r s k :=
  ((((h.other (c := b) hne).other (c := b) hne).other (c := b) hne).other (c := b) hne).other (c := b) hne

end

section

theorem bitDist_sym (t m r s k t' m' r' s' k' : Int) : bitDist t m r s k t' m' r' s' k' = bitDist t' m' r' s' k' t m r s k := by
  unfold bitDist; rw [diffTo_sym]
theorem bitDist_zero {t m r s k t' m' r' s' k' : Int} (h : isState t m r s k = true) (h' : isState t' m' r' s' k' = true) : bitDist t m r s k t' m' r' s' k' = 0 ↔ t = t' ∧ m = m' ∧ r = r' ∧ s = s' ∧ k = k' := by
  have h1 := diffTo_zero (xs := stateBits t m r s k) (ys := stateBits t' m' r' s' k') (by rw [stateBits_len, stateBits_len])
  rw [stateBits_len] at h1
  unfold bitDist
  rw [h1]
  constructor
  · exact stateBits_inj h h'
  · rintro ⟨rfl, rfl, rfl, rfl, rfl⟩; rfl
theorem dist_valid {t m r s k t' m' r' s' k' d : Int} (h : distOf t m r s k t' m' r' s' k' = (d, 0)) : isState t m r s k = true ∧ isState t' m' r' s' k' = true := by
  rcases hA : isState t m r s k with _ | _
  · rw [di_1 hA] at h; simp at h
  · rcases hB : isState t' m' r' s' k' with _ | _
    · rw [di_2 hB] at h; simp at h
    · exact ⟨rfl, rfl⟩
theorem dist_back {t m r s k t' m' r' s' k' d : Int} (h : distOf t m r s k t' m' r' s' k' = (d, 0)) : distOf t' m' r' s' k' t m r s k = (d, 0) := by
  obtain ⟨hA, hB⟩ := dist_valid h
  rw [di_0 hA hB] at h
  rw [di_0 hB hA, bitDist_sym]
  exact h
theorem distS_zero {t m r s k t' m' r' s' k' d : Int} (h : distOf t m r s k t' m' r' s' k' = (d, 0)) : (d == 0) = decide (t = t' ∧ m = m' ∧ r = r' ∧ s = s' ∧ k = k') := by
  obtain ⟨hA, hB⟩ := dist_valid h
  rw [di_0 hA hB] at h
  have hd : (bitDist t m r s k t' m' r' s' k' : Int) = d := congrArg Prod.fst h
  rw [Bool.eq_iff_iff, decide_eq_true_eq, ← bitDist_zero hA hB, ← hd, beq_iff_eq]
  omega
theorem time_back {t m r s k t' m' r' s' k' d : Int} (h : distOf t m r s k t' m' r' s' k' = (d, 0)) :
    ∃ x y, timeOf t m r s k t' m' r' s' k' = (x, 0) ∧ timeOf t' m' r' s' k' t m r s k = (y, 0) ∧ -32768 ≤ x ∧ x ≤ 32767 ∧ (x = -32768 ∧ y = -32768 ∨ x ≠ -32768 ∧ y = -x) := by
  obtain ⟨hA, hB⟩ := dist_valid h
  have r1 := time_range t t'
  have r2 := time_range t' t
  have r3 := time_sign t t'
  exact ⟨_, _, to_0 hA hB, to_0 hB hA, r1.1, r1.2, by omega⟩
end

section
open Go.RowKit

/-- What a draw of a state and three numbers leaves. -/
def DrawnAdv (w : World) (e : Ending) (w' : World) : Prop :=
  ∃ t m r s k d sl rd : Int, e = .returned (.tuple #[.agg #[.int .i64 t, .int .i64 m, .int .i64 r, .int .i64 s, .int .i64 k], .int .i64 d, .int .i64 sl, .int .i64 rd]) ∧ Below w.heap.size w w'
def four (a b c d : Int) (z : Nat) : Int := if z = 0 then a else if z = 1 then b else if z = 2 then c else d
theorem four_arr (a b c d : Int) (z : Nat) (hz : z < 4) : (#[.int .i64 a, .int .i64 b, .int .i64 c, .int .i64 d] : Array Value)[z]? = some (.int .i64 (four a b c d z)) := by
  match z, hz with
  | 0, _ | 1, _ | 2, _ | 3, _ => rfl
theorem four_list (a b c d : Int) (z : Nat) (hz : z < 4) : ([.int .i64 a, .int .i64 b, .int .i64 c, .int .i64 d] : List Value)[z]? = some (.int .i64 (four a b c d z)) := by
  match z, hz with
  | 0, _ | 1, _ | 2, _ | 3, _ => rfl
theorem four_alloc (a b c d : Int) (z : Nat) (hz : z < 4) (T : Nat) : ∀ W : World, (W.alloc (.cells #[.int .i64 a, .int .i64 b, .int .i64 c, .int .i64 d] T)).cell? ⟨W.heap.size, z, none⟩ = some (.int .i64 (four a b c d z)) := fun W => by
  rw [World.cell?_alloc_at _ _ _ _ rfl]; exact four_arr a b c d z hz
theorem four_cell {w w' : World} {T p : Nat} {a b c d : Int} (hg : (w.alloc (.cells #[.int .i64 a, .int .i64 b, .int .i64 c, .int .i64 d] T)).grownBy w' (some p)) (hp : p < w.heap.size) (z : Nat) (hz : z < 4) : w'.cell? ⟨w.heap.size, z, none⟩ = some (.int .i64 (four a b c d z)) := by
  rw [table_cell hg hp z]; exact four_arr a b c d z hz

end

section

theorem advance_get {t m r s k d sl rd q0 q1 q2 q3 q4 : Int} (h : advanced t m r s k d sl rd = (q0, q1, q2, q3, q4, 0)) :
    isState t m r s k = true ∧ (0 ≤ d ∧ d ≤ 65535) ∧ (1 ≤ sl ∧ sl ≤ 256) ∧ (1 ≤ rd ∧ rd ≤ 16) ∧ s < sl ∧ r < rd ∧ q0 = (t + d) % 65536 ∧ q1 = m ∧ q2 = (stepRS sl rd r s).1 ∧ q3 = (stepRS sl rd r s).2 ∧ q4 = k := by
  rcases hA : isState t m r s k with _ | _
  · rw [ad_1 hA] at h; simp at h
  · rcases hm : mayAdvance r s d sl rd with _ | _
    · rw [ad_2 hA hm] at h; simp at h
    · rw [ad_0 hA hm] at h
      obtain ⟨b1, b2, b3, b4, b5⟩ := may_iff.1 hm
      simp only [Prod.mk.injEq] at h
      exact ⟨rfl, b1, b2, b3, b4, b5, h.1.symm, h.2.1.symm, h.2.2.1.symm, h.2.2.2.1.symm, h.2.2.2.2.1.symm⟩
theorem advance_time {t m r s k d sl rd q0 q1 q2 q3 q4 : Int} (h : advanced t m r s k d sl rd = (q0, q1, q2, q3, q4, 0)) :
    ∃ x, timeOf t m r s k q0 q1 q2 q3 q4 = (x, 0) ∧ -32768 ≤ x ∧ x ≤ 32767 ∧ (x - d).tmod 65536 = 0 := by
  obtain ⟨hA, -, b2, b3, b4, b5, rfl, rfl, rfl, rfl, rfl⟩ := advance_get h
  obtain ⟨a1, a2, a3, a4, a5⟩ := isState_iff.1 hA
  have hin := steps_in (slots := sl) (rounds := rd) (r := r) (s := s) ⟨a4.1, b4⟩ ⟨a3.1, b5⟩ 1
  have hB : isState ((t + d) % 65536) q1 (stepRS sl rd r s).1 (stepRS sl rd r s).2 q4 = true := by
    have e : stepsRS sl rd 1 r s = stepRS sl rd r s := rfl
    rw [e] at hin
    exact isState_iff.2 ⟨by omega, a2, by omega, by omega, a5⟩
  have hr := time_range t ((t + d) % 65536)
  refine ⟨_, to_0 hA hB, hr.1, hr.2, ?_⟩
  exact Int.tmod_eq_zero_of_dvd (Int.dvd_of_emod_eq_zero (time_advance t d))
theorem advance_one {t m k d sl rd R S : Int} (ht : 0 ≤ t ∧ t ≤ 65535) (hm : 0 ≤ m ∧ m ≤ 15) (hk : 0 ≤ k ∧ k ≤ 4294967295) (hd : 0 ≤ d ∧ d ≤ 65535) (hsl : 1 ≤ sl ∧ sl ≤ 256) (hrd : 1 ≤ rd ∧ rd ≤ 16) (hR : 0 ≤ R ∧ R < rd) (hS : 0 ≤ S ∧ S < sl) :
    advanced t m R S k d sl rd = ((t + d) % 65536, m, (stepRS sl rd R S).1, (stepRS sl rd R S).2, k, 0) :=
  ad_0 (isState_iff.2 ⟨ht, hm, by omega, by omega, hk⟩) (may_iff.2 ⟨hd, hsl, hrd, hS.2, hR.2⟩)
theorem steps_next {sl rd r s R S : Int} {j : Nat} (h : stepsRS sl rd j r s = (R, S)) : stepsRS sl rd (j + 1) r s = stepRS sl rd R S := by
  unfold stepsRS
  rw [h]
theorem steps_bound {sl rd r s R S : Int} {j : Nat} (h : stepsRS sl rd j r s = (R, S)) (hs : 0 ≤ s ∧ s < sl) (hr : 0 ≤ r ∧ r < rd) : (0 ≤ R ∧ R < rd) ∧ 0 ≤ S ∧ S < sl := by
  have := steps_in hs hr j
  rwa [h] at this
theorem steps_end {sl rd r s R S : Int} (h : stepsRS sl rd sl.toNat r s = (R, S)) (hs : 0 ≤ s ∧ s < sl) : R = (r + 1) % rd ∧ S = s := by
  rw [steps_round hs.1 hs.2] at h
  exact ⟨(congrArg Prod.fst h).symm, (congrArg Prod.snd h).symm⟩
theorem state_neq_self (t m r s k : Int) (w : World) : (binOp .neq 25 (.agg #[.int .i64 t, .int .i64 m, .int .i64 r, .int .i64 s, .int .i64 k]) (.agg #[.int .i64 t, .int .i64 m, .int .i64 r, .int .i64 s, .int .i64 k])).run Try.prog w = .ok (.bool false) w := by
  have he := state_eql t m r s k t m r s k w
  rw [run_eql_struct] at he
  rw [run_neq_struct]
  rcases hq : (Op.equalIn 10000 25 (.agg #[.int .i64 t, .int .i64 m, .int .i64 r, .int .i64 s, .int .i64 k]) (.agg #[.int .i64 t, .int .i64 m, .int .i64 r, .int .i64 s, .int .i64 k])).run Try.prog w with ⟨b, w'⟩ | _
  · rw [hq] at he
    simp [Result.andThen] at he ⊢
    exact he
  · rw [hq] at he
    simp [Result.andThen] at he
end
end Go.Proofs.Ytbdfnkhmnglpbaa
