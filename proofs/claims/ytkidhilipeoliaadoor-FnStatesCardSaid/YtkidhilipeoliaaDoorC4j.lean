/-
  Chapter 4: spec.l04DrawAny.
-/
import Derived.Test.YtkidhilipeoliaaDoorC4i
namespace Go.Proofs.YtkidhilipeoliaaDoor
open Go.RowKit

set_option maxHeartbeats 2000000 in
theorem l04DrawAny_any (p : Nat) (w : World) (hs : Src 64 w p) : Calls Tryd.prog 19 #[.pointer (some ⟨p, 0, none⟩)] w (DrawnState 64 w p) := by
  have hp := hs.lt
  have HA := Lib.hid (Below.alloc (Below.refl w.heap.size w) (Nat.le_refl _) (.cells #[.int .i64 0, .int .i64 0, .int .i64 0, .int .i64 0, .int .i64 0] 25))
  have R0 := Lib.hid (StateAt.new (T := 25) (t := 0) (m := 0) (r := 0) (s := 0) (k := 0) w)
  have S0 := Lib.hid (hs.below HA.out)
  have G0 := Lib.hid (grown_of_below (g := some p) HA.out)
  clear hs
  go_enter Tryd.func19, Tryd.ntmps19
  go_wp2_with fail
  clear HA
  generalize w.alloc (.cells #[.int .i64 0, .int .i64 0, .int .i64 0, .int .i64 0, .int .i64 0] 25) = w0 at S0 R0 G0 ⊢
  refine (l04Draw_any _ _ S0.out).mono ?_
  rintro e w1 ⟨a, b, c, d, f, rfl, hs1, g1⟩
  have R1 := Lib.hid (R0.out.grown g1 (by simp; omega))
  have G1 := Lib.hid (grown_trans G0.out g1)
  have S1 := Lib.hid hs1
  clear hs1 g1 S0 G0 R0
  have hltR : w.heap.size < w1.heap.size := R1.out.lt
  go_wp2_with fail
  refine (next_any _ _ _ (S1.out.below (Below.alloc (Below.refl w1.heap.size w1) (Nat.le_refl _) (.cells #[.int .i64 a, .int .i64 b, .int .i64 c, .int .i64 d, .int .i64 f] 25))) (by omega)).mono ?_
  rintro e w2 ⟨y, rfl, y0, y1, -, hs2, g2⟩
  have hpw := S1.out.lt
  have R2 := Lib.hid ((R1.out.below (Below.alloc (Below.refl w1.heap.size w1) (Nat.le_refl _) (.cells #[.int .i64 a, .int .i64 b, .int .i64 c, .int .i64 d, .int .i64 f] 25)) R1.out.lt).grown g2 (by simp; omega))
  have B2 := Lib.hid ((StateAt.new (T := 25) (t := a) (m := b) (r := c) (s := d) (k := f) w1).grown g2 (by simp; omega))
  have G2 := Lib.hid (grown_trans (grown_trans G1.out (grown_of_below (Below.alloc (Below.refl w1.heap.size w1) (Nat.le_refl _) (.cells #[.int .i64 a, .int .i64 b, .int .i64 c, .int .i64 d, .int .i64 f] 25)))) g2)
  have S2 := Lib.hid hs2
  clear hs2 g2 S1 G1 R1 y0 y1
  obtain ⟨C, hC⟩ : ∃ C, C = w1.heap.size := ⟨_, rfl⟩
  rw [← hC] at B2 hpw ⊢
  have hCw : w.heap.size < C := by have := hltR; omega
  clear hC
  clear hltR
  by_cases h0 : y = 0
  · subst h0
    go_wp2_with fail
    refine (next_any _ _ _ (S2.out.below (Below.alloc (Below.refl w2.heap.size w2) (Nat.le_refl _) (.cells #[.int .i64 (-1), .int .i64 65535, .int .i64 65536] 2))) (by omega)).mono ?_
    rintro e w3 ⟨z, rfl, z0, z1, -, hs3, g3⟩
    replace z1 := z1 (by omega)
    obtain ⟨z, rfl⟩ := Int.eq_ofNat_of_zero_le z0
    have hz : z < 3 := by omega
    obtain ⟨v, hv⟩ : ∃ v : Int, (#[.int .i64 (-1), .int .i64 65535, .int .i64 65536] : Array Value)[z]? = some (.int .i64 v) := by
      match z, hz with
      | 0, _ => exact ⟨_, rfl⟩
      | 1, _ => exact ⟨_, rfl⟩
      | 2, _ => exact ⟨_, rfl⟩
    have hct := (table_cell g3 S2.out.lt z).trans hv
    have R3 := Lib.hid ((R2.out.below (Below.alloc (Below.refl w2.heap.size w2) (Nat.le_refl _) (.cells #[.int .i64 (-1), .int .i64 65535, .int .i64 65536] 2)) R2.out.lt).grown g3 (by simp; omega))
    have B3 := Lib.hid ((B2.out.below (Below.alloc (Below.refl w2.heap.size w2) (Nat.le_refl _) (.cells #[.int .i64 (-1), .int .i64 65535, .int .i64 65536] 2)) B2.out.lt).grown g3 (by simp; omega))
    have G3 := Lib.hid (grown_trans (grown_trans G2.out (grown_of_below (Below.alloc (Below.refl w2.heap.size w2) (Nat.le_refl _) (.cells #[.int .i64 (-1), .int .i64 65535, .int .i64 65536] 2)))) g3)
    have S3 := Lib.hid hs3
    clear hs3 g3 S2 G2 R2 B2 z0 hv hz
    have cc := B3.out.c0
    have ff := B3.out.f 0
    go_upto_region 13 with fail
    clear cc ff hct
    have B4 := Lib.hid (StateAt.set0 B3.out v)
    have BF : Below C w3 (w3.setCell ⟨C, 0, none⟩ (.int .i64 v)) := (Below.refl C w3).setCell (p := ⟨C, 0, none⟩) (Nat.le_refl _) (.int .i64 v)
    have S4 := Lib.hid (Src.belowB S3.out BF hpw)
    have R4 := Lib.hid (StateAt.below R3.out BF hCw)
    have G4 := Lib.hid (grown_step G3.out BF (by omega))
    generalize w3.setCell ⟨C, 0, none⟩ (.int .i64 v) = w4 at B4 S4 R4 G4 ⊢
    clear BF B3 S3 R3 G3
    have xc0 := B4.out.c0
    have xc1 := B4.out.c1
    have xc2 := B4.out.c2
    have xc3 := B4.out.c3
    have xc4 := B4.out.c4
    have rc0 := R4.out.c0
    have rc1 := R4.out.c1
    have rc2 := R4.out.c2
    have rc3 := R4.out.c3
    have rc4 := R4.out.c4
    have rf0 := R4.out.f 0
    have rf1 := R4.out.f 1
    have rf2 := R4.out.f 2
    have rf3 := R4.out.f 3
    have rf4 := R4.out.f 4
    go_wp2_with fail
    clear xc0 xc1 xc2 xc3 xc4
    clear rc0 rc1 rc2 rc3 rc4 rf0 rf1 rf2 rf3 rf4
    change bodyPost _ _ _ _ _ (setFive w4 w.heap.size v b c d f)
    have SF := StateAt.five R4.out v b c d f
    have BF := below_five (B := w.heap.size) (w := w4) (b := w.heap.size) (by omega) v b c d f
    have SS := Src.belowB S4.out BF hp
    have GG := grown_step G4.out BF (Nat.le_refl _)
    generalize setFive w4 w.heap.size v b c d f = wz at SF SS GG ⊢
    have e0 := SF.c0
    have e1 := SF.c1
    have e2 := SF.c2
    have e3 := SF.c3
    have e4 := SF.c4
    exact bodyPost_ret (v := .agg #[.int .i64 v, .int .i64 b, .int .i64 c, .int .i64 d, .int .i64 f]) (by simp [results, Tryd.results19, go_sem, e0, e1, e2, e3, e4]) rfl ⟨_, _, _, _, _, rfl, SS, GG⟩
  have t0 : (y == 0) = false := by simp [h0]
  by_cases h1 : y = 1
  · subst h1
    clear h0
    go_wp2_with fail
    refine (next_any _ _ _ (S2.out.below (Below.alloc (Below.refl w2.heap.size w2) (Nat.le_refl _) (.cells #[.int .i64 (-1), .int .i64 16] 2))) (by omega)).mono ?_
    rintro e w3 ⟨z, rfl, z0, z1, -, hs3, g3⟩
    replace z1 := z1 (by omega)
    obtain ⟨z, rfl⟩ := Int.eq_ofNat_of_zero_le z0
    have hz : z < 2 := by omega
    obtain ⟨v, hv⟩ : ∃ v : Int, (#[.int .i64 (-1), .int .i64 16] : Array Value)[z]? = some (.int .i64 v) := by
      match z, hz with
      | 0, _ => exact ⟨_, rfl⟩
      | 1, _ => exact ⟨_, rfl⟩
    have hct := (table_cell g3 S2.out.lt z).trans hv
    have R3 := Lib.hid ((R2.out.below (Below.alloc (Below.refl w2.heap.size w2) (Nat.le_refl _) (.cells #[.int .i64 (-1), .int .i64 16] 2)) R2.out.lt).grown g3 (by simp; omega))
    have B3 := Lib.hid ((B2.out.below (Below.alloc (Below.refl w2.heap.size w2) (Nat.le_refl _) (.cells #[.int .i64 (-1), .int .i64 16] 2)) B2.out.lt).grown g3 (by simp; omega))
    have G3 := Lib.hid (grown_trans (grown_trans G2.out (grown_of_below (Below.alloc (Below.refl w2.heap.size w2) (Nat.le_refl _) (.cells #[.int .i64 (-1), .int .i64 16] 2)))) g3)
    have S3 := Lib.hid hs3
    clear hs3 g3 S2 G2 R2 B2 z0 hv hz
    have cc := B3.out.c1
    have ff := B3.out.f 1
    go_upto_region 13 with fail
    clear cc ff hct
    have B4 := Lib.hid (StateAt.set1 B3.out v)
    have BF : Below C w3 (w3.setCell ⟨C, 1, none⟩ (.int .i64 v)) := (Below.refl C w3).setCell (p := ⟨C, 1, none⟩) (Nat.le_refl _) (.int .i64 v)
    have S4 := Lib.hid (Src.belowB S3.out BF hpw)
    have R4 := Lib.hid (StateAt.below R3.out BF hCw)
    have G4 := Lib.hid (grown_step G3.out BF (by omega))
    generalize w3.setCell ⟨C, 1, none⟩ (.int .i64 v) = w4 at B4 S4 R4 G4 ⊢
    clear BF B3 S3 R3 G3
    have xc0 := B4.out.c0
    have xc1 := B4.out.c1
    have xc2 := B4.out.c2
    have xc3 := B4.out.c3
    have xc4 := B4.out.c4
    have rc0 := R4.out.c0
    have rc1 := R4.out.c1
    have rc2 := R4.out.c2
    have rc3 := R4.out.c3
    have rc4 := R4.out.c4
    have rf0 := R4.out.f 0
    have rf1 := R4.out.f 1
    have rf2 := R4.out.f 2
    have rf3 := R4.out.f 3
    have rf4 := R4.out.f 4
    go_wp2_with fail
    clear xc0 xc1 xc2 xc3 xc4
    clear rc0 rc1 rc2 rc3 rc4 rf0 rf1 rf2 rf3 rf4
    change bodyPost _ _ _ _ _ (setFive w4 w.heap.size a v c d f)
    have SF := StateAt.five R4.out a v c d f
    have BF := below_five (B := w.heap.size) (w := w4) (b := w.heap.size) (by omega) a v c d f
    have SS := Src.belowB S4.out BF hp
    have GG := grown_step G4.out BF (Nat.le_refl _)
    generalize setFive w4 w.heap.size a v c d f = wz at SF SS GG ⊢
    have e0 := SF.c0
    have e1 := SF.c1
    have e2 := SF.c2
    have e3 := SF.c3
    have e4 := SF.c4
    exact bodyPost_ret (v := .agg #[.int .i64 a, .int .i64 v, .int .i64 c, .int .i64 d, .int .i64 f]) (by simp [results, Tryd.results19, go_sem, e0, e1, e2, e3, e4]) rfl ⟨_, _, _, _, _, rfl, SS, GG⟩
  have t1 : (y == 1) = false := by simp [h1]
  by_cases h2 : y = 2
  · subst h2
    clear h0
    clear h1
    go_wp2_with fail
    refine (next_any _ _ _ (S2.out.below (Below.alloc (Below.refl w2.heap.size w2) (Nat.le_refl _) (.cells #[.int .i64 (-1), .int .i64 16] 2))) (by omega)).mono ?_
    rintro e w3 ⟨z, rfl, z0, z1, -, hs3, g3⟩
    replace z1 := z1 (by omega)
    obtain ⟨z, rfl⟩ := Int.eq_ofNat_of_zero_le z0
    have hz : z < 2 := by omega
    obtain ⟨v, hv⟩ : ∃ v : Int, (#[.int .i64 (-1), .int .i64 16] : Array Value)[z]? = some (.int .i64 v) := by
      match z, hz with
      | 0, _ => exact ⟨_, rfl⟩
      | 1, _ => exact ⟨_, rfl⟩
    have hct := (table_cell g3 S2.out.lt z).trans hv
    have R3 := Lib.hid ((R2.out.below (Below.alloc (Below.refl w2.heap.size w2) (Nat.le_refl _) (.cells #[.int .i64 (-1), .int .i64 16] 2)) R2.out.lt).grown g3 (by simp; omega))
    have B3 := Lib.hid ((B2.out.below (Below.alloc (Below.refl w2.heap.size w2) (Nat.le_refl _) (.cells #[.int .i64 (-1), .int .i64 16] 2)) B2.out.lt).grown g3 (by simp; omega))
    have G3 := Lib.hid (grown_trans (grown_trans G2.out (grown_of_below (Below.alloc (Below.refl w2.heap.size w2) (Nat.le_refl _) (.cells #[.int .i64 (-1), .int .i64 16] 2)))) g3)
    have S3 := Lib.hid hs3
    clear hs3 g3 S2 G2 R2 B2 z0 hv hz
    have cc := B3.out.c2
    have ff := B3.out.f 2
    go_upto_region 13 with fail
    clear cc ff hct
    have B4 := Lib.hid (StateAt.set2 B3.out v)
    have BF : Below C w3 (w3.setCell ⟨C, 2, none⟩ (.int .i64 v)) := (Below.refl C w3).setCell (p := ⟨C, 2, none⟩) (Nat.le_refl _) (.int .i64 v)
    have S4 := Lib.hid (Src.belowB S3.out BF hpw)
    have R4 := Lib.hid (StateAt.below R3.out BF hCw)
    have G4 := Lib.hid (grown_step G3.out BF (by omega))
    generalize w3.setCell ⟨C, 2, none⟩ (.int .i64 v) = w4 at B4 S4 R4 G4 ⊢
    clear BF B3 S3 R3 G3
    have xc0 := B4.out.c0
    have xc1 := B4.out.c1
    have xc2 := B4.out.c2
    have xc3 := B4.out.c3
    have xc4 := B4.out.c4
    have rc0 := R4.out.c0
    have rc1 := R4.out.c1
    have rc2 := R4.out.c2
    have rc3 := R4.out.c3
    have rc4 := R4.out.c4
    have rf0 := R4.out.f 0
    have rf1 := R4.out.f 1
    have rf2 := R4.out.f 2
    have rf3 := R4.out.f 3
    have rf4 := R4.out.f 4
    go_wp2_with fail
    clear xc0 xc1 xc2 xc3 xc4
    clear rc0 rc1 rc2 rc3 rc4 rf0 rf1 rf2 rf3 rf4
    change bodyPost _ _ _ _ _ (setFive w4 w.heap.size a b v d f)
    have SF := StateAt.five R4.out a b v d f
    have BF := below_five (B := w.heap.size) (w := w4) (b := w.heap.size) (by omega) a b v d f
    have SS := Src.belowB S4.out BF hp
    have GG := grown_step G4.out BF (Nat.le_refl _)
    generalize setFive w4 w.heap.size a b v d f = wz at SF SS GG ⊢
    have e0 := SF.c0
    have e1 := SF.c1
    have e2 := SF.c2
    have e3 := SF.c3
    have e4 := SF.c4
    exact bodyPost_ret (v := .agg #[.int .i64 a, .int .i64 b, .int .i64 v, .int .i64 d, .int .i64 f]) (by simp [results, Tryd.results19, go_sem, e0, e1, e2, e3, e4]) rfl ⟨_, _, _, _, _, rfl, SS, GG⟩
  have t2 : (y == 2) = false := by simp [h2]
  by_cases h3 : y = 3
  · subst h3
    clear h0
    clear h1
    clear h2
    go_wp2_with fail
    refine (next_any _ _ _ (S2.out.below (Below.alloc (Below.refl w2.heap.size w2) (Nat.le_refl _) (.cells #[.int .i64 (-1), .int .i64 256] 2))) (by omega)).mono ?_
    rintro e w3 ⟨z, rfl, z0, z1, -, hs3, g3⟩
    replace z1 := z1 (by omega)
    obtain ⟨z, rfl⟩ := Int.eq_ofNat_of_zero_le z0
    have hz : z < 2 := by omega
    obtain ⟨v, hv⟩ : ∃ v : Int, (#[.int .i64 (-1), .int .i64 256] : Array Value)[z]? = some (.int .i64 v) := by
      match z, hz with
      | 0, _ => exact ⟨_, rfl⟩
      | 1, _ => exact ⟨_, rfl⟩
    have hct := (table_cell g3 S2.out.lt z).trans hv
    have R3 := Lib.hid ((R2.out.below (Below.alloc (Below.refl w2.heap.size w2) (Nat.le_refl _) (.cells #[.int .i64 (-1), .int .i64 256] 2)) R2.out.lt).grown g3 (by simp; omega))
    have B3 := Lib.hid ((B2.out.below (Below.alloc (Below.refl w2.heap.size w2) (Nat.le_refl _) (.cells #[.int .i64 (-1), .int .i64 256] 2)) B2.out.lt).grown g3 (by simp; omega))
    have G3 := Lib.hid (grown_trans (grown_trans G2.out (grown_of_below (Below.alloc (Below.refl w2.heap.size w2) (Nat.le_refl _) (.cells #[.int .i64 (-1), .int .i64 256] 2)))) g3)
    have S3 := Lib.hid hs3
    clear hs3 g3 S2 G2 R2 B2 z0 hv hz
    have cc := B3.out.c3
    have ff := B3.out.f 3
    go_upto_region 13 with fail
    clear cc ff hct
    have B4 := Lib.hid (StateAt.set3 B3.out v)
    have BF : Below C w3 (w3.setCell ⟨C, 3, none⟩ (.int .i64 v)) := (Below.refl C w3).setCell (p := ⟨C, 3, none⟩) (Nat.le_refl _) (.int .i64 v)
    have S4 := Lib.hid (Src.belowB S3.out BF hpw)
    have R4 := Lib.hid (StateAt.below R3.out BF hCw)
    have G4 := Lib.hid (grown_step G3.out BF (by omega))
    generalize w3.setCell ⟨C, 3, none⟩ (.int .i64 v) = w4 at B4 S4 R4 G4 ⊢
    clear BF B3 S3 R3 G3
    have xc0 := B4.out.c0
    have xc1 := B4.out.c1
    have xc2 := B4.out.c2
    have xc3 := B4.out.c3
    have xc4 := B4.out.c4
    have rc0 := R4.out.c0
    have rc1 := R4.out.c1
    have rc2 := R4.out.c2
    have rc3 := R4.out.c3
    have rc4 := R4.out.c4
    have rf0 := R4.out.f 0
    have rf1 := R4.out.f 1
    have rf2 := R4.out.f 2
    have rf3 := R4.out.f 3
    have rf4 := R4.out.f 4
    go_wp2_with fail
    clear xc0 xc1 xc2 xc3 xc4
    clear rc0 rc1 rc2 rc3 rc4 rf0 rf1 rf2 rf3 rf4
    change bodyPost _ _ _ _ _ (setFive w4 w.heap.size a b c v f)
    have SF := StateAt.five R4.out a b c v f
    have BF := below_five (B := w.heap.size) (w := w4) (b := w.heap.size) (by omega) a b c v f
    have SS := Src.belowB S4.out BF hp
    have GG := grown_step G4.out BF (Nat.le_refl _)
    generalize setFive w4 w.heap.size a b c v f = wz at SF SS GG ⊢
    have e0 := SF.c0
    have e1 := SF.c1
    have e2 := SF.c2
    have e3 := SF.c3
    have e4 := SF.c4
    exact bodyPost_ret (v := .agg #[.int .i64 a, .int .i64 b, .int .i64 c, .int .i64 v, .int .i64 f]) (by simp [results, Tryd.results19, go_sem, e0, e1, e2, e3, e4]) rfl ⟨_, _, _, _, _, rfl, SS, GG⟩
  have t3 : (y == 3) = false := by simp [h3]
  by_cases h4 : y = 4
  · subst h4
    clear h0
    clear h1
    clear h2
    clear h3
    go_wp2_with fail
    refine (next_any _ _ _ (S2.out.below (Below.alloc (Below.refl w2.heap.size w2) (Nat.le_refl _) (.cells #[.int .i64 (-1), .int .i64 4294967296] 2))) (by omega)).mono ?_
    rintro e w3 ⟨z, rfl, z0, z1, -, hs3, g3⟩
    replace z1 := z1 (by omega)
    obtain ⟨z, rfl⟩ := Int.eq_ofNat_of_zero_le z0
    have hz : z < 2 := by omega
    obtain ⟨v, hv⟩ : ∃ v : Int, (#[.int .i64 (-1), .int .i64 4294967296] : Array Value)[z]? = some (.int .i64 v) := by
      match z, hz with
      | 0, _ => exact ⟨_, rfl⟩
      | 1, _ => exact ⟨_, rfl⟩
    have hct := (table_cell g3 S2.out.lt z).trans hv
    have R3 := Lib.hid ((R2.out.below (Below.alloc (Below.refl w2.heap.size w2) (Nat.le_refl _) (.cells #[.int .i64 (-1), .int .i64 4294967296] 2)) R2.out.lt).grown g3 (by simp; omega))
    have B3 := Lib.hid ((B2.out.below (Below.alloc (Below.refl w2.heap.size w2) (Nat.le_refl _) (.cells #[.int .i64 (-1), .int .i64 4294967296] 2)) B2.out.lt).grown g3 (by simp; omega))
    have G3 := Lib.hid (grown_trans (grown_trans G2.out (grown_of_below (Below.alloc (Below.refl w2.heap.size w2) (Nat.le_refl _) (.cells #[.int .i64 (-1), .int .i64 4294967296] 2)))) g3)
    have S3 := Lib.hid hs3
    clear hs3 g3 S2 G2 R2 B2 z0 hv hz
    have cc := B3.out.c4
    have ff := B3.out.f 4
    go_upto_region 13 with fail
    clear cc ff hct
    have B4 := Lib.hid (StateAt.set4 B3.out v)
    have BF : Below C w3 (w3.setCell ⟨C, 4, none⟩ (.int .i64 v)) := (Below.refl C w3).setCell (p := ⟨C, 4, none⟩) (Nat.le_refl _) (.int .i64 v)
    have S4 := Lib.hid (Src.belowB S3.out BF hpw)
    have R4 := Lib.hid (StateAt.below R3.out BF hCw)
    have G4 := Lib.hid (grown_step G3.out BF (by omega))
    generalize w3.setCell ⟨C, 4, none⟩ (.int .i64 v) = w4 at B4 S4 R4 G4 ⊢
    clear BF B3 S3 R3 G3
    have xc0 := B4.out.c0
    have xc1 := B4.out.c1
    have xc2 := B4.out.c2
    have xc3 := B4.out.c3
    have xc4 := B4.out.c4
    have rc0 := R4.out.c0
    have rc1 := R4.out.c1
    have rc2 := R4.out.c2
    have rc3 := R4.out.c3
    have rc4 := R4.out.c4
    have rf0 := R4.out.f 0
    have rf1 := R4.out.f 1
    have rf2 := R4.out.f 2
    have rf3 := R4.out.f 3
    have rf4 := R4.out.f 4
    go_wp2_with fail
    clear xc0 xc1 xc2 xc3 xc4
    clear rc0 rc1 rc2 rc3 rc4 rf0 rf1 rf2 rf3 rf4
    change bodyPost _ _ _ _ _ (setFive w4 w.heap.size a b c d v)
    have SF := StateAt.five R4.out a b c d v
    have BF := below_five (B := w.heap.size) (w := w4) (b := w.heap.size) (by omega) a b c d v
    have SS := Src.belowB S4.out BF hp
    have GG := grown_step G4.out BF (Nat.le_refl _)
    generalize setFive w4 w.heap.size a b c d v = wz at SF SS GG ⊢
    have e0 := SF.c0
    have e1 := SF.c1
    have e2 := SF.c2
    have e3 := SF.c3
    have e4 := SF.c4
    exact bodyPost_ret (v := .agg #[.int .i64 a, .int .i64 b, .int .i64 c, .int .i64 d, .int .i64 v]) (by simp [results, Tryd.results19, go_sem, e0, e1, e2, e3, e4]) rfl ⟨_, _, _, _, _, rfl, SS, GG⟩
  have t4 : (y == 4) = false := by simp [h4]
  clear h0 h1 h2 h3 h4
  have xc0 := B2.out.c0
  have xc1 := B2.out.c1
  have xc2 := B2.out.c2
  have xc3 := B2.out.c3
  have xc4 := B2.out.c4
  have rc0 := R2.out.c0
  have rc1 := R2.out.c1
  have rc2 := R2.out.c2
  have rc3 := R2.out.c3
  have rc4 := R2.out.c4
  have rf0 := R2.out.f 0
  have rf1 := R2.out.f 1
  have rf2 := R2.out.f 2
  have rf3 := R2.out.f 3
  have rf4 := R2.out.f 4
  go_wp2_with fail
  clear xc0 xc1 xc2 xc3 xc4
  clear rc0 rc1 rc2 rc3 rc4 rf0 rf1 rf2 rf3 rf4
  change bodyPost _ _ _ _ _ (setFive w2 w.heap.size a b c d f)
  have SF := StateAt.five R2.out a b c d f
  have BF := below_five (B := w.heap.size) (w := w2) (b := w.heap.size) (by omega) a b c d f
  have SS := Src.belowB S2.out BF hp
  have GG := grown_step G2.out BF (Nat.le_refl _)
  generalize setFive w2 w.heap.size a b c d f = wz at SF SS GG ⊢
  have e0 := SF.c0
  have e1 := SF.c1
  have e2 := SF.c2
  have e3 := SF.c3
  have e4 := SF.c4
  exact bodyPost_ret (v := .agg #[.int .i64 a, .int .i64 b, .int .i64 c, .int .i64 d, .int .i64 f]) (by simp [results, Tryd.results19, go_sem, e0, e1, e2, e3, e4]) rfl ⟨_, _, _, _, _, rfl, SS, GG⟩
end Go.Proofs.YtkidhilipeoliaaDoor
