/-
  Chapter 12: the draws of a table with a slot, and of two slots.
-/
import Derived.Test.YtggnoeeaoligdaaSlD
import Derived.Test.YtggnoeeaoligdaaSlR
import Derived.Test.YtggnoeeaoligdaaDrawB
namespace Go.Proofs.Ytggnoeeaoligdaa
open Go.RowKit

def DrawnSX (w : World) (e : Ending) (w' : World) : Prop := ∃ v t y, e = .returned (.tuple #[v, slVal y]) ∧ OwnE 38 w' w.heap.size v t ∧ anyS t ∧ Below w.heap.size w w'
def DrawnSS (w : World) (e : Ending) (w' : World) : Prop := ∃ x y, e = .returned (.tuple #[slVal x, slVal y]) ∧ Below w.heap.size w w'
/-- A whole slot set in a box. -/
def setS0 (w : World) (b : Nat) (x : Sl) : World := setSlD (((w.setCell ⟨b, 0, none⟩ (.int .i64 x.mode)).setCell ⟨b, 1, none⟩ (.int .i64 x.round)).setCell ⟨b, 2, none⟩ (.int .i64 x.slot)) b x.desc
theorem grown_setS0 (w : World) (b : Nat) (x : Sl) : w.grownBy (setS0 w b x) (some b) := by
  unfold setS0 setSlD
  exact grown_trans (grown_trans (grown_trans (grown_trans (grown_trans (grown_trans (grown_trans (grown_set _ _ _ _) (grown_set _ _ _ _)) (grown_set _ _ _ _)) (grown_set _ _ _ _)) (grown_set _ _ _ _)) (grown_set _ _ _ _)) (grown_set _ _ _ _)) (grown_set _ _ _ _)
theorem SlBk.put0 {w : World} {T b : Nat} {x : Sl} (h : SlBk T w b x) (y : Sl) : SlBk T (setS0 w b y) b y := (((h.set0 y.mode).set1 y.round).set2 y.slot).setD y.desc
theorem SlBk.other0 {w : World} {T b c : Nat} {x : Sl} (h : SlBk T w b x) (y : Sl) (hne : b ≠ c) : SlBk T (setS0 w c y) b x := h.grown (grown_setS0 w c y) (by simp; omega)
set_option maxHeartbeats 4000000 in
set_option maxRecDepth 100000 in
theorem drawInsertSlot_any (ao : Option Addr) (n cap : Nat) (cs : List Int) (w : World) (hr : RdB w w.heap.size ao n cs) (hn : n ≤ 1048576) :
    Calls Try.prog 28 #[.slice ao n cap] w (DrawnSX w) := by
  have hb0 := (Below.refl w.heap.size w).alloc (Nat.le_refl _) (.cells #[.int .i64 0, .int .i64 0, .int .i64 0, .int .i64 0, .int .i64 0, .int .i64 0, .int .i64 0, .bool false] 38)
  have HR := Lib.hid (rdB_later hr hb0)
  have R0 := Lib.hid (SlBk.new (T := 38) (x := Sl.zero) w)
  have HB0 := Lib.hid hb0
  have hs0 : w.heap.size < (w.alloc (.cells #[.int .i64 0, .int .i64 0, .int .i64 0, .int .i64 0, .int .i64 0, .int .i64 0, .int .i64 0, .bool false] 38)).heap.size := R0.out.lt
  clear hr hb0
  go_enter Try.func28, Try.ntmps28
  go_upto_region 1 with fail
  unfold Sl.zero Ds.zero at R0
  dsimp only at R0
  generalize w.alloc (.cells #[.int .i64 0, .int .i64 0, .int .i64 0, .int .i64 0, .int .i64 0, .int .i64 0, .int .i64 0, .bool false] 38) = w0 at HR R0 HB0 hs0 ⊢
  go_wp2_with fail
  refine (from_any _ _ _ cs _ HR.out hn).mono ?_
  rintro e w1 ⟨p, rfl, hlo, hs1, hb1⟩
  have hp1 : p < w1.heap.size := hs1.lt
  have hpw : w.heap.size ≤ p := by omega
  have hne : (some w.heap.size : Option Nat) ≠ some p := by simp; omega
  have HS1 := Lib.hid hs1; have HB1 := Lib.hid (HB0.out.trans (hb1.mono (Nat.le_of_lt hs0))); have R1 := Lib.hid (R0.out.below hb1 hs0)
  have hw1 : w.heap.size < w1.heap.size := R1.out.lt
  clear hs1 hb1 R0 HB0 HR
  go_wp2_with fail
  refine (l12DrawAny_any p _ HS1.out).mono ?_
  rintro e w2 ⟨v, t, rfl, o2, ha, hs2, g2⟩
  have HO2 := Lib.hid o2; have HS2 := Lib.hid hs2; have HB2 := Lib.hid (HB1.out.grown g2 HB1.out.size (fun k hk => by cases hk; exact hpw)); have HA := Lib.hid ha; have R2 := Lib.hid (R1.out.grown g2 hne)
  clear o2 hs2 g2 ha HS1 HB1 R1
  go_wp2_with fail
  refine (next_any _ _ _ HS2.out (by omega)).mono ?_
  rintro e w3 ⟨a, rfl, a0, a1, -, hs3, g3⟩
  have a2 : a < 3 := a1 (by omega)
  have HO3 := Lib.hid (HO2.out.old g3 hp1); have HS3 := Lib.hid hs3; have HB3 := Lib.hid (HB2.out.grown g3 HB2.out.size (fun k hk => by cases hk; exact hpw)); have R3 := Lib.hid (R2.out.grown g3 hne); clear hs3 g3 HO2 HS2 HB2 R2
  go_wp2_with fail
  refine (next_any _ _ _ HS3.out (by omega)).mono ?_
  rintro e w4 ⟨z, rfl, z0, z1, -, hs4, g4⟩
  have z2 : z < 20 := z1 (by omega)
  clear a0 a1 a2 z0 z1 z2
  have HO4 := Lib.hid (HO3.out.old g4 hp1); have HS4 := Lib.hid hs4; have HB4 := Lib.hid (HB3.out.grown g4 HB3.out.size (fun k hk => by cases hk; exact hpw)); have R4 := Lib.hid (R3.out.grown g4 hne); clear hs4 g4 HO3 HS3 HB3 R3
  go_wp2_with fail
  refine (next_any _ _ _ HS4.out (by omega)).mono ?_
  rintro e w5 ⟨b, rfl, b0, b1, -, hs5, g5⟩
  clear b0 b1
  have HO5 := Lib.hid (HO4.out.old g5 hp1); have HS5 := Lib.hid hs5; have HB5 := Lib.hid (HB4.out.grown g5 HB4.out.size (fun k hk => by cases hk; exact hpw)); have R5 := Lib.hid (R4.out.grown g5 hne); clear hs5 g5 HO4 HS4 HB4 R4
  go_wp2_with fail
  refine (next_any _ _ _ HS5.out (by omega)).mono ?_
  rintro e w6 ⟨c, rfl, c0, c1, -, hs6, g6⟩
  clear c0 c1
  have HO6 := Lib.hid (HO5.out.old g6 hp1); have HS6 := Lib.hid hs6; have HB6 := Lib.hid (HB5.out.grown g6 HB5.out.size (fun k hk => by cases hk; exact hpw)); have R6 := Lib.hid (R5.out.grown g6 hne); clear hs6 g6 HO5 HS5 HB5 R5
  go_wp2_with fail
  refine (l08DrawAny_any _ _ HS6.out).mono ?_
  rintro e w7 ⟨q0, q1, q2, q3, q4, rfl, hs7, g7⟩
  have HO7 := Lib.hid (HO6.out.old g7 hp1); have HS7 := Lib.hid hs7; have HB7 := Lib.hid (HB6.out.grown g7 HB6.out.size (fun k hk => by cases hk; exact hpw)); have R7 := Lib.hid (R6.out.grown g7 hne); clear hs7 g7 HO6 HS6 HB6 R6
  obtain ⟨x0, x1, x2, x3, x4, x5, x6, x7⟩ := R7.out.all8
  dsimp only at x0 x1 x2 x3 x4 x5 x6 x7
  have f0 := R7.out.f 0; have f1 := R7.out.f 1; have f2 := R7.out.f 2; have f3 := R7.out.f 3; have f4 := R7.out.f 4; have f5 := R7.out.f 5; have f6 := R7.out.f 6; have f7 := R7.out.f 7
  go_wp2_with fail
  clear x0 x1 x2 x3 x4 x5 x6 x7 f0 f1 f2 f3 f4 f5 f6 f7
  generalize wrap64 (a - wrap64 (Int.tdiv z 19)) = md
  change bodyPost _ _ _ _ _ (setS0 w7 w.heap.size ⟨md, b, c, ⟨q0, q1, q2, q3, q4⟩⟩)
  have gz := grown_setS0 w7 w.heap.size ⟨md, b, c, ⟨q0, q1, q2, q3, q4⟩⟩
  have RZ := R7.out.put0 ⟨md, b, c, ⟨q0, q1, q2, q3, q4⟩⟩
  have OZ := HO7.out.old gz hw1
  have BZ := HB7.out.grown gz HB7.out.size (fun k hk => by cases hk; exact Nat.le_refl _)
  generalize setS0 w7 w.heap.size ⟨md, b, c, ⟨q0, q1, q2, q3, q4⟩⟩ = wz at RZ OZ BZ ⊢
  obtain ⟨e0, e1, e2, e3, e4, e5, e6, e7⟩ := RZ.all8
  dsimp only at e0 e1 e2 e3 e4 e5 e6 e7
  exact bodyPost_ret (v := .tuple #[v, slVal ⟨md, b, c, ⟨q0, q1, q2, q3, q4⟩⟩]) (by simp [results, Try.results28, go_sem, slVal, e0, e1, e2, e3, e4, e5, e6, e7]) rfl ⟨_, t, ⟨md, b, c, ⟨q0, q1, q2, q3, q4⟩⟩, rfl, OZ.more (Nat.le_of_lt hw1), HA.out, BZ⟩
end Go.Proofs.Ytggnoeeaoligdaa
