/-
  Chapter 4: spec.l04Draw.
-/
import Derived.Test.YtkidhilipeoliaaDoorC4c
import Derived.Test.YtkidhilipeoliaaDoorDrawA
namespace Go.Proofs.YtkidhilipeoliaaDoor
open Go.RowKit

/-- What a draw of a state leaves: some state; of old memory only the source has been written. -/
def DrawnState (T : Nat) (w : World) (p : Nat) (e : Ending) (w' : World) : Prop :=
  ∃ t m r s k : Int, e = .returned (.agg #[.int .i64 t, .int .i64 m, .int .i64 r, .int .i64 s, .int .i64 k]) ∧ Src T w' p ∧ w.grownBy w' (some p)

set_option maxHeartbeats 1000000 in
theorem l04Draw_any (p : Nat) (w : World) (hs : Src 64 w p) : Calls Tryd.prog 23 #[.pointer (some ⟨p, 0, none⟩)] w (DrawnState 64 w p) := by
  have hp := hs.lt
  have HA := Lib.hid (Below.alloc (Below.refl w.heap.size w) (Nat.le_refl _) (.cells #[.int .i64 0, .int .i64 0, .int .i64 0, .int .i64 0, .int .i64 0] 25))
  have R0 := Lib.hid (StateAt.new (T := 25) (t := 0) (m := 0) (r := 0) (s := 0) (k := 0) w)
  have S0 := Lib.hid (hs.below HA.out)
  have G0 := Lib.hid (grown_of_below (g := some p) HA.out)
  have hltR : w.heap.size < (w.alloc (.cells #[.int .i64 0, .int .i64 0, .int .i64 0, .int .i64 0, .int .i64 0] 25)).heap.size := by simp
  clear hs
  go_enter Tryd.func23, Tryd.ntmps23
  go_wp2_with fail
  clear HA
  generalize w.alloc (.cells #[.int .i64 0, .int .i64 0, .int .i64 0, .int .i64 0, .int .i64 0] 25) = w0 at S0 R0 G0 hltR ⊢
  refine (next_any _ _ _ S0.out (by omega)).mono ?_
  rintro e w1 ⟨a, rfl, a0, a1, -, hs1, g1⟩
  have R1 := Lib.hid (R0.out.grown g1 (by simp; omega))
  have G1 := Lib.hid (grown_trans G0.out g1)
  have S1 := Lib.hid hs1
  clear hs1 g1 S0 G0 R0 a0 a1
  go_wp2_with fail
  refine (next_any _ _ _ S1.out (by omega)).mono ?_
  rintro e w2 ⟨b, rfl, b0, b1, -, hs2, g2⟩
  have R2 := Lib.hid (R1.out.grown g2 (by simp; omega))
  have G2 := Lib.hid (grown_trans G1.out g2)
  have S2 := Lib.hid hs2
  clear hs2 g2 S1 G1 R1 b0 b1
  go_wp2_with fail
  refine (next_any _ _ _ S2.out (by omega)).mono ?_
  rintro e w3 ⟨c, rfl, c0, c1, -, hs3, g3⟩
  have R3 := Lib.hid (R2.out.grown g3 (by simp; omega))
  have G3 := Lib.hid (grown_trans G2.out g3)
  have S3 := Lib.hid hs3
  clear hs3 g3 S2 G2 R2 c0 c1
  go_wp2_with fail
  refine (next_any _ _ _ S3.out (by omega)).mono ?_
  rintro e w4 ⟨d, rfl, d0, d1, -, hs4, g4⟩
  have R4 := Lib.hid (R3.out.grown g4 (by simp; omega))
  have G4 := Lib.hid (grown_trans G3.out g4)
  have S4 := Lib.hid hs4
  clear hs4 g4 S3 G3 R3 d0 d1
  go_wp2_with fail
  refine (next_any _ _ _ S4.out (by omega)).mono ?_
  rintro e w5 ⟨f, rfl, f0, f1, -, hs5, g5⟩
  have R5 := Lib.hid (R4.out.grown g5 (by simp; omega))
  have G5 := Lib.hid (grown_trans G4.out g5)
  have S5 := Lib.hid hs5
  clear hs5 g5 S4 G4 R4 f0 f1
  have hltR : w.heap.size < w5.heap.size := R5.out.lt
  go_wp2_with fail
  refine (next_any _ _ _ (S5.out.below (Below.alloc (Below.refl w5.heap.size w5) (Nat.le_refl _) (.cells #[.int .i64 a, .int .i64 b, .int .i64 c, .int .i64 d, .int .i64 f] 25))) (by omega)).mono ?_
  rintro e w6 ⟨y, rfl, y0, y1, -, hs6, g6⟩
  have hpw := S5.out.lt
  have R6 := Lib.hid ((R5.out.below (Below.alloc (Below.refl w5.heap.size w5) (Nat.le_refl _) (.cells #[.int .i64 a, .int .i64 b, .int .i64 c, .int .i64 d, .int .i64 f] 25)) R5.out.lt).grown g6 (by simp; omega))
  have B6 := Lib.hid ((StateAt.new (T := 25) (t := a) (m := b) (r := c) (s := d) (k := f) w5).grown g6 (by simp; omega))
  have G6 := Lib.hid (grown_trans (grown_trans G5.out (grown_of_below (Below.alloc (Below.refl w5.heap.size w5) (Nat.le_refl _) (.cells #[.int .i64 a, .int .i64 b, .int .i64 c, .int .i64 d, .int .i64 f] 25)))) g6)
  have S6 := Lib.hid hs6
  clear hs6 g6 S5 G5 R5 y0 y1
  obtain ⟨C, hC⟩ : ∃ C, C = w5.heap.size := ⟨_, rfl⟩
  rw [← hC] at B6 hpw ⊢
  have hCw : w.heap.size < C := by have := hltR; omega
  clear hC
  by_cases h0 : y = 0
  · subst h0
    go_wp2_with fail
    refine (next_any _ _ _ S6.out (by omega)).mono ?_
    rintro e w7 ⟨a', rfl, a'0, a'1, -, hs7, g7⟩
    have R7 := Lib.hid (R6.out.grown g7 (by simp; omega))
    have B7 := Lib.hid (B6.out.grown g7 (by simp; omega))
    have G7 := Lib.hid (grown_trans G6.out g7)
    have S7 := Lib.hid hs7
    clear hs7 g7 S6 G6 R6 B6
    replace a'1 := a'1 (by omega)
    go_wp2_with fail
    refine (next_any _ _ _ S7.out (by omega)).mono ?_
    rintro e w8 ⟨b', rfl, b'0, b'1, -, hs8, g8⟩
    have R8 := Lib.hid (R7.out.grown g8 (by simp; omega))
    have B8 := Lib.hid (B7.out.grown g8 (by simp; omega))
    have G8 := Lib.hid (grown_trans G7.out g8)
    have S8 := Lib.hid hs8
    clear hs8 g8 S7 G7 R7 B7 b'0 b'1
    go_wp2_with fail
    refine (next_any _ _ _ S8.out (by omega)).mono ?_
    rintro e w9 ⟨c', rfl, c'0, c'1, -, hs9, g9⟩
    have R9 := Lib.hid (R8.out.grown g9 (by simp; omega))
    have B9 := Lib.hid (B8.out.grown g9 (by simp; omega))
    have G9 := Lib.hid (grown_trans G8.out g9)
    have S9 := Lib.hid hs9
    clear hs9 g9 S8 G8 R8 B8 c'0 c'1
    go_wp2_with fail
    refine (next_any _ _ _ S9.out (by omega)).mono ?_
    rintro e w10 ⟨d', rfl, d'0, d'1, -, hs10, g10⟩
    have R10 := Lib.hid (R9.out.grown g10 (by simp; omega))
    have B10 := Lib.hid (B9.out.grown g10 (by simp; omega))
    have G10 := Lib.hid (grown_trans G9.out g10)
    have S10 := Lib.hid hs10
    clear hs10 g10 S9 G9 R9 B9 d'0 d'1
    go_wp2_with fail
    refine (next_any _ _ _ S10.out (by omega)).mono ?_
    rintro e w11 ⟨f', rfl, f'0, f'1, -, hs11, g11⟩
    have R11 := Lib.hid (R10.out.grown g11 (by simp; omega))
    have B11 := Lib.hid (B10.out.grown g11 (by simp; omega))
    have G11 := Lib.hid (grown_trans G10.out g11)
    have S11 := Lib.hid hs11
    clear hs11 g11 S10 G10 R10 B10
    replace f'1 := f'1 (by omega)
    have xc0 := B11.out.c0
    have xc1 := B11.out.c1
    have xc2 := B11.out.c2
    have xc3 := B11.out.c3
    have xc4 := B11.out.c4
    have xf0 := B11.out.f 0
    have xf1 := B11.out.f 1
    have xf2 := B11.out.f 2
    have xf3 := B11.out.f 3
    have xf4 := B11.out.f 4
    go_upto_region 4 with fail
    clear xc0 xc1 xc2 xc3 xc4 xf0 xf1 xf2 xf3 xf4
    change Code.wp _ _ _ _ (setFive w11 C (65535 - a') b' c' d' (4294967295 - f'))
    have B12 := Lib.hid (StateAt.five B11.out (65535 - a') b' c' d' (4294967295 - f'))
    have BF := below_five (B := C) (w := w11) (b := C) (by omega) (65535 - a') b' c' d' (4294967295 - f')
    have S12 := Lib.hid (Src.belowB S11.out BF hpw)
    have R12 := Lib.hid (StateAt.below R11.out BF hCw)
    have G12 := Lib.hid (grown_step G11.out BF (by omega))
    generalize setFive w11 C (65535 - a') b' c' d' (4294967295 - f') = w12 at B12 S12 R12 G12 ⊢
    clear BF B11 S11 R11 G11
    have xc0 := B12.out.c0
    have xc1 := B12.out.c1
    have xc2 := B12.out.c2
    have xc3 := B12.out.c3
    have xc4 := B12.out.c4
    have rc0 := R12.out.c0
    have rc1 := R12.out.c1
    have rc2 := R12.out.c2
    have rc3 := R12.out.c3
    have rc4 := R12.out.c4
    have rf0 := R12.out.f 0
    have rf1 := R12.out.f 1
    have rf2 := R12.out.f 2
    have rf3 := R12.out.f 3
    have rf4 := R12.out.f 4
    go_wp2_with fail
    clear xc0 xc1 xc2 xc3 xc4
    clear rc0 rc1 rc2 rc3 rc4 rf0 rf1 rf2 rf3 rf4
    change bodyPost _ _ _ _ _ (setFive w12 w.heap.size (65535 - a') b' c' d' (4294967295 - f'))
    have SF := StateAt.five R12.out (65535 - a') b' c' d' (4294967295 - f')
    have BF := below_five (B := w.heap.size) (w := w12) (b := w.heap.size) (by omega) (65535 - a') b' c' d' (4294967295 - f')
    have SS := Src.belowB S12.out BF hp
    have GG := grown_step G12.out BF (Nat.le_refl _)
    generalize setFive w12 w.heap.size (65535 - a') b' c' d' (4294967295 - f') = wz at SF SS GG ⊢
    have e0 := SF.c0
    have e1 := SF.c1
    have e2 := SF.c2
    have e3 := SF.c3
    have e4 := SF.c4
    exact bodyPost_ret (v := .agg #[.int .i64 (65535 - a'), .int .i64 b', .int .i64 c', .int .i64 d', .int .i64 (4294967295 - f')]) (by simp [results, Tryd.results23, go_sem, e0, e1, e2, e3, e4]) rfl ⟨_, _, _, _, _, rfl, SS, GG⟩
  · have t0 : (y == 0) = false := by simp [h0]
    clear h0
    have xc0 := B6.out.c0
    have xc1 := B6.out.c1
    have xc2 := B6.out.c2
    have xc3 := B6.out.c3
    have xc4 := B6.out.c4
    have rc0 := R6.out.c0
    have rc1 := R6.out.c1
    have rc2 := R6.out.c2
    have rc3 := R6.out.c3
    have rc4 := R6.out.c4
    have rf0 := R6.out.f 0
    have rf1 := R6.out.f 1
    have rf2 := R6.out.f 2
    have rf3 := R6.out.f 3
    have rf4 := R6.out.f 4
    go_wp2_with fail
    clear xc0 xc1 xc2 xc3 xc4
    clear rc0 rc1 rc2 rc3 rc4 rf0 rf1 rf2 rf3 rf4
    change bodyPost _ _ _ _ _ (setFive w6 w.heap.size a b c d f)
    have SF := StateAt.five R6.out a b c d f
    have BF := below_five (B := w.heap.size) (w := w6) (b := w.heap.size) (by omega) a b c d f
    have SS := Src.belowB S6.out BF hp
    have GG := grown_step G6.out BF (Nat.le_refl _)
    generalize setFive w6 w.heap.size a b c d f = wz at SF SS GG ⊢
    have e0 := SF.c0
    have e1 := SF.c1
    have e2 := SF.c2
    have e3 := SF.c3
    have e4 := SF.c4
    exact bodyPost_ret (v := .agg #[.int .i64 a, .int .i64 b, .int .i64 c, .int .i64 d, .int .i64 f]) (by simp [results, Tryd.results23, go_sem, e0, e1, e2, e3, e4]) rfl ⟨_, _, _, _, _, rfl, SS, GG⟩
end Go.Proofs.YtkidhilipeoliaaDoor
