/-
  Chapter 18: draws: a preamble, a line.
-/
import Derived.Test.YtilkopbfbmibgaaLiB
import Derived.Test.YtilkopbfbmibgaaLiC
import Derived.Test.YtilkopbfbmibgaaDrawB
import Derived.Deep.Cut
import Derived.Deep.DeepCutAuto
namespace Go.Proofs.Ytilkopbfbmibgaa
open Go.RowKit

theorem pre_table (j : Nat) (h : j < 4) : ∃ y : Int, (#[Value.int .i64 2, .int .i64 3, .int .i64 15, .int .i64 16] : Array Value)[j]? = some (.int .i64 y) ∧ 0 ≤ y ∧ y ≤ 16 := by
  match j, h with
  | 0, _ => exact ⟨2, rfl, by omega, by omega⟩
  | 1, _ => exact ⟨3, rfl, by omega, by omega⟩
  | 2, _ => exact ⟨15, rfl, by omega, by omega⟩
  | 3, _ => exact ⟨16, rfl, by omega, by omega⟩
/-- A preamble, or a number near one. -/
def DrawnPre (T : Nat) (w : World) (p : Nat) (e : Ending) (w' : World) : Prop :=
  ∃ y : Int, e = .returned (.int .i64 y) ∧ 0 ≤ y ∧ y ≤ 16 ∧ Src T w' p ∧ w.grownBy w' (some p)
theorem drawPreamble_any (p : Nat) (w : World) (hs : Src 73 w p) :
    Calls Try.prog 44 #[.pointer (some ⟨p, 0, none⟩)] w (DrawnPre 73 w p) := by
  have HS := Lib.hid hs; clear hs
  go_enter Try.func44, Try.ntmps44
  go_wp2_with fail
  refine (next_any _ _ _ HS.out (by omega)).mono ?_
  rintro e w1 ⟨x, rfl, hx0, hx1, -, hs1, g1⟩
  by_cases h0 : x = 0
  · subst h0
    have hal : Below w1.heap.size w1 (w1.alloc (.cells #[.int .i64 2, .int .i64 3, .int .i64 15, .int .i64 16] 2)) := (Below.refl _ _).alloc (Nat.le_refl _) _
    go_wp2_with fail
    refine (next_any _ _ _ (hs1.below hal) (by omega)).mono ?_
    rintro e w2 ⟨y, rfl, hy0, hy1, -, hs2, g2⟩
    obtain ⟨k, rfl⟩ := Int.eq_ofNat_of_zero_le hy0
    have hk4 : k < 4 := by have := hy1 (by omega); omega
    have hcell := table_cell g2 hs1.lt k
    obtain ⟨z, hz, hz0, hz1⟩ := pre_table k hk4
    rw [hz] at hcell
    have G := Lib.hid (grown_trans (grown_trans g1 (grown_of_below hal)) g2)
    have HS2 := Lib.hid hs2
    clear hz g1 g2 hs1 hs2 hal hx1 hy1
    go_wp2
    go_ret
    exact ⟨z, rfl, hz0, hz1, HS2.out, G.out⟩
  · have t0 : (x == 0) = false := by simp [h0]
    clear h0
    go_wp2_with fail
    refine (next_any _ _ _ hs1 (by omega)).mono ?_
    rintro e w2 ⟨y, rfl, hy0, hy1, -, hs2, g2⟩
    have hy2 := hy1 (by omega)
    go_wp2
    go_ret
    exact ⟨3 + y, rfl, by omega, by omega, hs2, grown_trans g1 g2⟩
theorem own_take {E base n cap : Nat} {w : World} {ao : Option Addr} {xs : List Int} (h : Own E w base (.slice ao n cap) xs) {k : Nat} (hk : k ≤ n) (hl : xs.length = n) (h0 : 0 < n) : Own E w base (.slice ao k cap) (xs.take k) := by
  obtain ⟨h1, h2⟩ := h
  rcases h2 with ⟨h2, h3⟩ | ⟨g', cap', cur, h2, hbg, hh, hn, hcap, hsz, htake⟩
  · omega
  cases h2
  have hlk : (xs.take k).length = k := by rw [List.length_take]; omega
  refine ⟨by simp, .inr ⟨g', cap, cur, by rw [hlk], hbg, hh, by rw [hlk]; omega, hcap, hsz, ?_⟩⟩
  rw [hlk, Nat.mul_one, List.map_take, ← htake, List.take_take, Nat.mul_one]
  congr 1
  omega
theorem own_block {E base n cap : Nat} {w : World} {ao : Option Addr} {xs : List Int} (h : Own E w base (.slice ao n cap) xs) (h0 : 0 < n) : ∃ g, ao = some ⟨g, 0, none⟩ := by
  obtain ⟨h1, h2⟩ := h
  rcases h2 with ⟨h2, h3⟩ | ⟨g', cap', cur, h2, -⟩
  · cases h2; omega
  · cases h2; exact ⟨g', rfl⟩
/-- A step of a draw: the own lists, the source, old memory. -/
structure DrSt (E T : Nat) (w0 w : World) (p : Nat) (v : Value) (xs : List Int) : Prop where
  own : Own E w w0.heap.size v xs
  src : Src T w p
  grown : w0.grownBy w (some p)
section
variable {E T p : Nat} {w0 w w' : World} {v : Value} {xs : List Int}
theorem DrSt.next (h : DrSt E T w0 w p v xs) (hp : p < w0.heap.size) (hs : Src T w' p) (g : w.grownBy w' (some p)) : DrSt E T w0 w' p v xs := ⟨h.own.src g hp, hs, grown_trans h.grown g⟩
theorem DrSt.still (h : DrSt E T w0 w p v xs) (b : Below w.heap.size w w') : DrSt E T w0 w' p v xs := ⟨h.own.below b, h.src.below b, grown_trans h.grown (grown_of_below b)⟩
theorem DrSt.swap (h : DrSt E T w0 w p v xs) (b : Below w.heap.size w w') {u : Value} {ys : List Int} (o : Own E w' w.heap.size u ys) : DrSt E T w0 w' p u ys := ⟨o.more h.grown.size, h.src.below b, grown_trans h.grown (grown_of_below b)⟩
theorem DrSt.put (h : DrSt E T w0 w p v xs) (hp : p < w0.heap.size) {u : Value} {ys : List Int} (b : Below w0.heap.size w w') (o : Own E w' w0.heap.size u ys) : DrSt E T w0 w' p u ys := ⟨o, h.src.belowB b hp, grown_step h.grown b (Nat.le_refl _)⟩
end
set_option maxRecDepth 100000 in
set_option maxHeartbeats 1000000 in
theorem l18Draw_any (p : Nat) (w : World) (hs : Src 73 w p) :
    Calls Try.prog 56 #[.pointer (some ⟨p, 0, none⟩)] w (DrawnList 2 73 w p 9000) := by
  have hp := hs.lt
  have HS := Lib.hid hs; clear hs
  go_enter Try.func56, Try.ntmps56
  go_wp2_with fail
  refine (drawBytes_any _ _ _ HS.out (by omega) (by omega)).mono ?_
  rintro e w1 ⟨v1, xs, rfl, o1, hxl, hs1, g1⟩
  obtain ⟨a1, c1, rfl, o1, -⟩ := o1.get
  have D : DrSt 2 73 w w1 p _ _ := ⟨o1, hs1, g1⟩
  clear o1 hs1 g1
  go_wp2_with fail
  refine (drawPreamble_any _ _ D.src).mono ?_
  rintro e w2 ⟨y, rfl, hy0, hy1, hs2, g2⟩
  replace D := D.next hp hs2 g2
  clear hs2 g2
  obtain ⟨r0, r1, hF⟩ : ∃ r0 r1, cellsOf xs y = (r0, r1) := ⟨_, _, rfl⟩
  have HF := Lib.hid hF; clear hF
  have hrl : r0.length ≤ 8192 := by have h := cellsOf_len xs y; rw [HF.out] at h; exact h
  have hrd : Rd w2 a1 xs.length xs := by
    obtain ⟨a, c, e, r, -⟩ := D.own.form
    cases e
    exact r
  go_wp2_with fail
  refine (sCellsOf_any _ _ _ _ _ hrd (by omega) (Own.cap D.own).1).mono ?_
  rintro e w3 m3
  rw [HF.out] at m3
  change Makes2 2 _ r0 r1 _ _ at m3
  obtain ⟨a3, c3, rfl, o3, r3, b3⟩ := m3.get
  replace D := D.swap b3 o3
  clear o3 b3 m3 hrd HF
  by_cases hr1 : r1 = 0
  rotate_left
  · have hd : (r1 != 0) = true := by simp [hr1]
    clear hr1 r3
    go_wp2_with fail
    refine (drawBits_any _ _ _ D.src (by omega) (by omega)).mono ?_
    rintro e w4 ⟨v4, zs, rfl, o4, hzl, hs4, g4⟩
    go_wp2
    go_ret
    exact ⟨_, zs, rfl, o4.more D.grown.size, hzl, hs4, grown_trans D.grown g4⟩
  subst hr1
  have hd : ((0 : Int) != 0) = false := rfl
  go_wp2_with fail
  refine (next_any _ _ _ D.src (by omega)).mono ?_
  rintro e w4 ⟨q, rfl, hq0, -, -, hs4, g4⟩
  replace D := D.next hp hs4 g4
  clear hs4 g4 r3
  by_cases hq : q = 0
  · subst hq
    go_wp2_with fail
    refine (drawBits_any _ _ _ D.src (by omega) (by omega)).mono ?_
    rintro e w5 ⟨v5, zs, rfl, o5, hzl, hs5, g5⟩
    go_wp2
    go_ret
    exact ⟨_, zs, rfl, o5.more D.grown.size, hzl, hs5, grown_trans D.grown g5⟩
  have tq : (q == 0) = false := by simp [hq]
  clear hq
  go_wp2_with fail
  refine (next_any _ _ _ D.src (by omega)).mono ?_
  rintro e w5 ⟨b, rfl, hb0, -, -, hs5, g5⟩
  replace D := D.next hp hs5 g5
  clear hs5 g5
  go_wp2_with fail
  refine (next_any _ _ _ D.src (by omega)).mono ?_
  rintro e w6 ⟨a, rfl, ha0, -, -, hs6, g6⟩
  replace D := D.next hp hs6 g6
  clear hs6 g6
  obtain ⟨L, l1, hG⟩ : ∃ L l1, padLine r0 b a = (L, l1) := ⟨_, _, rfl⟩
  have HG := Lib.hid hG; clear hG
  have hll : L.length ≤ 8192 := by have h := padLine_len r0 b a; rw [HG.out] at h; exact h
  have hrd : Rd w6 a3 r0.length r0 := by
    obtain ⟨a', c', e, r, -⟩ := D.own.form
    cases e
    exact r
  go_wp2_with fail
  refine (sPadLine_any _ _ _ _ _ _ hrd (by omega)).mono ?_
  rintro e w7 m7
  rw [HG.out] at m7
  change Makes2 2 _ L l1 _ _ at m7
  obtain ⟨a7, c7, rfl, o7, r7, b7⟩ := m7.get
  replace D := D.swap b7 o7
  clear o7 b7 m7 hrd HG
  go_wp2_with fail
  refine (next_any _ _ _ D.src (by omega)).mono ?_
  rintro e w8 ⟨z, rfl, hz0, -, -, hs8, g8⟩
  replace D := D.next hp hs8 g8
  clear hs8 g8 r7
  by_cases hz : z = 0
  · subst hz
    go_wp2_with fail
    refine (next_any _ _ _ D.src (by omega)).mono ?_
    rintro e w9 ⟨c, rfl, hc0, hc1, -, hs9, g9⟩
    replace D := D.next hp hs9 g9
    have hc2 := hc1 (by omega)
    obtain ⟨c, rfl⟩ := Int.eq_ofNat_of_zero_le hc0
    clear hs9 g9 hc1
    go_upto_region 8 with fail
    go_loopw [5, 6] (fun n _k wr => ∃ (j : Nat) (ys : List Int), j ≤ 3 ∧ n = .int .i64 j ∧ ys.length = L.length ∧ Hid (DrSt 2 73 w wr p (.slice a7 L.length c7) ys)) (fun n _ _ => (intOf n).toNat)
    case atStart => exact ⟨1 + c, L, by omega, by simp, rfl, Lib.hid D⟩
    case round =>
      clear D
      obtain ⟨j, ys, hj3, rfl, hyl, HD⟩ := hrel
      by_cases hj : 0 < j
      · by_cases hl0 : 0 < L.length
        · obtain ⟨g, rfl⟩ : ∃ g, a7 = some ⟨g, 0, none⟩ := own_block HD.out.own hl0
          go_wp2_with fail
          refine (next_any _ _ _ HD.out.src (by omega)).mono ?_
          rintro e w10 ⟨k, rfl, hk0, hk1, hk2, hs10, g10⟩
          obtain ⟨k, rfl⟩ := Int.eq_ofNat_of_zero_le hk0
          have hkl : k < L.length := by
            by_cases h1 : 1 < (L.length : Int)
            · have := hk1 h1; omega
            · have := hk2 (by omega); omega
          have D2 := HD.out.next hp hs10 g10
          obtain ⟨hcell, hfz, ho, hbl⟩ := own_store D2.own hyl hkl (wrap64 (1 - ys.getD k 0))
          have D3 := D2.put hp hbl ho
          have HD3 := Lib.hid D3
          have hyl2 : (ys.set k (wrap64 (1 - ys.getD k 0))).length = L.length := by rw [List.length_set]; exact hyl
          obtain ⟨x, hx⟩ : ∃ x, x = ys.getD k 0 := ⟨_, rfl⟩
          rw [← hx] at hcell HD3 hyl2
          generalize hZ : ys.set k (wrap64 (1 - x)) = zs at HD3 hyl2
          clear D2 D3 hs10 g10 hx hbl ho hk1 hk2 HD hZ
          go_wp2
          go_roundw
          case rel => exact ⟨j - 1, zs, by omega, by go_num, hyl2, HD3⟩
          case measure => simp [intOf]; omega
        · have hl1 : L.length = 0 := by omega
          have hlz : (L.length : Int) = 0 := by omega
          go_wp2
          go_ret
          exact ⟨_, ys, rfl, HD.out.own, by omega, HD.out.src, HD.out.grown⟩
      · have hj0 : j = 0 := by omega
        subst hj0
        go_wp2
        go_ret
        exact ⟨_, ys, rfl, HD.out.own, by omega, HD.out.src, HD.out.grown⟩
  have tz : (z == 0) = false := by simp [hz]
  clear hz
  by_cases hz1 : z = 1
  · subst hz1
    by_cases hl0 : 0 < L.length
    · obtain ⟨g, rfl⟩ : ∃ g, a7 = some ⟨g, 0, none⟩ := own_block D.own hl0
      have hcap := Own.cap D.own
      go_wp2_with fail
      refine (next_any _ _ _ D.src (by omega)).mono ?_
      rintro e w9 ⟨k, rfl, hk0, hk1, hk2, hs9, g9⟩
      obtain ⟨k, rfl⟩ := Int.eq_ofNat_of_zero_le hk0
      have hkl : k < L.length := by
        by_cases h1 : 1 < (L.length : Int)
        · have := hk1 h1; omega
        · have := hk2 (by omega); omega
      have D2 := D.next hp hs9 g9
      have OT := Lib.hid (own_take D2.own (k := k) (by omega) rfl hl0)
      have HD2 := Lib.hid D2
      obtain ⟨hcap1, hcap2⟩ := hcap
      clear D2 D hs9 g9 hk1 hk2
      go_wp2
      go_ret
      exact ⟨_, L.take k, rfl, OT.out, by rw [List.length_take]; omega, HD2.out.src, HD2.out.grown⟩
    · have hlz : (L.length : Int) = 0 := by omega
      go_wp2
      go_ret
      exact ⟨_, L, rfl, D.own, by omega, D.src, D.grown⟩
  · have tz1 : (z == 1) = false := by simp [hz1]
    clear hz1
    go_wp2
    go_ret
    exact ⟨_, L, rfl, D.own, by omega, D.src, D.grown⟩
end Go.Proofs.Ytilkopbfbmibgaa
