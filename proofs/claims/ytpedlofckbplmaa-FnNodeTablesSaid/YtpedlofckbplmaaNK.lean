/-
  Chapter 10: the model draws also what is no node table.
-/
import Derived.Test.YtpedlofckbplmaaNJ
namespace Go.Proofs.Ytpedlofckbplmaa
open Go.RowKit

def anyT (t : List Nd) : Prop := t.length ≤ 5 ∧ shortN t
theorem anyT.small {t : List Nd} (h : anyT t) : smallN t := h.2.small
theorem anyT_set {t : List Nd} {k : Nat} {y : Nd} (h : anyT t) (hy : y.name.size ≤ 30) : anyT (t.set k y) :=
  ⟨by rw [List.length_set]; exact h.1, fun x hx => by
    rcases List.mem_or_eq_of_mem_set hx with hx | rfl
    · exact h.2 x hx
    · exact hy⟩
theorem drNd.short {t : List Nd} (h : drNd t) : shortN t := fun x hx => (h x hx).2
theorem three_cell {cs : Array Value} {a b c : Int} (h : cs = #[.int .i64 a, .int .i64 b, .int .i64 c]) {z : Nat} (hz : z < 3) : ∃ v : Int, cs[z]? = some (.int .i64 v) := by
  subst h
  match z, hz with
  | 0, _ => exact ⟨_, rfl⟩
  | 1, _ => exact ⟨_, rfl⟩
  | 2, _ => exact ⟨_, rfl⟩
theorem five_str {cs : Array Value} {a b c d e : ByteArray} (h : cs = #[.string a, .string b, .string c, .string d, .string e]) (hs : a.size ≤ 30 ∧ b.size ≤ 30 ∧ c.size ≤ 30 ∧ d.size ≤ 30 ∧ e.size ≤ 30) {z : Nat} (hz : z < 5) : ∃ v : ByteArray, cs[z]? = some (.string v) ∧ v.size ≤ 30 := by
  subst h
  match z, hz with
  | 0, _ => exact ⟨_, rfl, hs.1⟩
  | 1, _ => exact ⟨_, rfl, hs.2.1⟩
  | 2, _ => exact ⟨_, rfl, hs.2.2.1⟩
  | 3, _ => exact ⟨_, rfl, hs.2.2.2.1⟩
  | 4, _ => exact ⟨_, rfl, hs.2.2.2.2⟩
set_option maxHeartbeats 2000000 in
set_option maxRecDepth 100000 in
theorem l10DrawAny_any (p : Nat) (w : World) (hs : Src 107 w p) : Calls Try.prog 50 #[.pointer (some ⟨p, 0, none⟩)] w (DrawnTab anyT w p) := by
  have hp := hs.lt
  have HC := Lib.hid (l10Draw_any p w hs); clear hs
  go_enter Try.func50, Try.ntmps50
  go_wp2_with fail
  refine HC.out.mono ?_
  rintro e w1 ⟨v, t, rfl, o1, ⟨hl1, hl2, hdr⟩, hs1, g1⟩
  obtain ⟨ao, cap, rfl, r1, hcap, hmax, hcase⟩ := o1.form
  have hg : ∃ g, ao = some ⟨g, 0, none⟩ := by
    rcases hcase with h | ⟨g, h, -⟩
    · simp only [Value.slice.injEq] at h; omega
    · exact ⟨g, h⟩
  obtain ⟨g, rfl⟩ := hg
  obtain ⟨n, hn⟩ : ∃ n, n = t.length := ⟨_, rfl⟩
  rw [← hn] at o1 hl1 hl2 hcap ⊢
  have hcm : cap ≤ 9223372036854775807 := by unfold maxLen at hmax; omega
  have HN := Lib.hid hn; have HAny := Lib.hid (show anyT t from ⟨by omega, hdr.short⟩)
  have HO1 := Lib.hid o1; have HS1 := Lib.hid hs1; have HG1 := Lib.hid g1
  clear o1 hs1 g1 r1 hdr hcase hmax hn
  go_wp2_with fail
  refine (next_any _ _ _ HS1.out (by omega)).mono ?_
  rintro e w2 ⟨k, rfl, hk0, hk1, hk2, hs2, g2⟩
  obtain ⟨k, rfl⟩ := Int.eq_ofNat_of_zero_le hk0
  have hkn : k < n := by
    by_cases h : 1 < (n : Int)
    · have := hk1 h; omega
    · have := hk2 (by omega); omega
  have HO2 := Lib.hid (HO1.out.src g2 hp); have HS2 := Lib.hid hs2; have HG2 := Lib.hid (grown_trans HG1.out g2)
  clear hk0 hk1 hk2 hs2 g2 HO1 HS1 HG1
  go_wp2_with fail
  refine (next_any _ _ _ HS2.out (by omega)).mono ?_
  rintro e w3 ⟨y, rfl, hy0, -, -, hs3, g3⟩
  have HO3 := Lib.hid (HO2.out.src g3 hp); have HS3 := Lib.hid hs3; have HG3 := Lib.hid (grown_trans HG2.out g3)
  clear hs3 g3 HO2 HS2 HG2
  have hkni : (k : Int) < (n : Int) := by omega
  have hkc : (k : Int) < (cap : Int) := by omega
  have hk0 : (0 : Int) ≤ (k : Int) := by omega
  have hkt : k < t.length := by rw [← HN.out]; exact hkn
  by_cases h0 : y = 0
  · subst h0
    have hbl : Below w3.heap.size w3 (w3.alloc (.cells #[.int .i64 (-1), .int .i64 31, .int .i64 32] 2)) := (Below.refl _ _).alloc (Nat.le_refl _) _
    have HSB := Lib.hid (HS3.out.below hbl); have HOB := Lib.hid (HO3.out.below hbl); have HGB := Lib.hid (grown_trans HG3.out (grown_of_below hbl))
    have hp3 : p < w3.heap.size := HS3.out.lt
    have HP3 := Lib.hid hp3; clear hbl hp3 HS3 HO3 HG3
    go_wp2_with fail
    refine (next_any _ _ _ HSB.out (by omega)).mono ?_
    rintro e w4 ⟨z, rfl, hz0, hz1, -, hs4, g4⟩
    have hz2 : z < 3 := hz1 (by omega)
    obtain ⟨z, rfl⟩ := Int.eq_ofNat_of_zero_le hz0
    have hz3 : z < 3 := by omega
    obtain ⟨u, hu⟩ := three_cell (cs := #[.int .i64 (-1), .int .i64 31, .int .i64 32]) rfl hz3
    have hcell : w4.cell? ⟨w3.heap.size, z, none⟩ = some (.int .i64 u) := (table_cell g4 HP3.out z).trans hu
    have HO4 := Lib.hid (HOB.out.src g4 hp); have HS4 := Lib.hid hs4; have HG4 := Lib.hid (grown_trans HGB.out g4)
    clear hz1 hs4 g4 HOB HSB HGB hu hz3
    have hin := (HO4.out.store HN.out.symm hkn Nd.zero).1
    generalize hxe : ndOf t k = x at hin
    obtain ⟨xi, xn, xf, xp⟩ := x
    obtain ⟨c0, c1, c2, c3⟩ := hin
    obtain ⟨f0, o5, b5⟩ := HO4.out.field (j := 0) (u := .int .i64 u) (y := ⟨u, xn, xf, xp⟩) HN.out.symm hkn (by omega) (by rw [hxe]; rfl)
    have hnm : xn.size ≤ 30 := by have h := HAny.out.2 _ (ndOf_mem hkt); rw [hxe] at h; exact h
    have HO5 := Lib.hid o5
    have HS5 := Lib.hid (HS4.out.belowB b5 hp); have HG5 := Lib.hid (grown_step HG4.out b5 (Nat.le_refl _))
    have HA5 := Lib.hid (anyT_set (k := k) (y := ⟨u, xn, xf, xp⟩) HAny.out hnm)
    clear o5 b5 hxe HS4 HG4
    simp only [Nat.add_zero] at f0 HO5 HS5 HG5
    go_wp2_with fail
    go_ret
    exact ⟨_, _, rfl, HO5.out, HA5.out, HS5.out, HG5.out⟩
  have t0 : (y == 0) = false := by simp [h0]
  clear h0
  by_cases h1 : y = 1
  · subst h1
    have hbl : Below w3.heap.size w3 (w3.alloc (.cells #[.string { data := #[] }, .string { data := #[115, 101, 118, 101, 110, 110, 55] }, .string { data := #[115, 105, 120, 120, 120, 54] }, .string { data := #[78, 49] }, .string { data := #[110, 48] }] 9)) := (Below.refl _ _).alloc (Nat.le_refl _) _
    have HSB := Lib.hid (HS3.out.below hbl); have HOB := Lib.hid (HO3.out.below hbl); have HGB := Lib.hid (grown_trans HG3.out (grown_of_below hbl))
    have hp3 : p < w3.heap.size := HS3.out.lt
    have HP3 := Lib.hid hp3; clear hbl hp3 HS3 HO3 HG3
    go_wp2_with fail
    refine (next_any _ _ _ HSB.out (by omega)).mono ?_
    rintro e w4 ⟨z, rfl, hz0, hz1, -, hs4, g4⟩
    have hz2 : z < 5 := hz1 (by omega)
    obtain ⟨z, rfl⟩ := Int.eq_ofNat_of_zero_le hz0
    have hz3 : z < 5 := by omega
    obtain ⟨u, hu, hus⟩ := five_str (cs := #[.string { data := #[] }, .string { data := #[115, 101, 118, 101, 110, 110, 55] }, .string { data := #[115, 105, 120, 120, 120, 54] }, .string { data := #[78, 49] }, .string { data := #[110, 48] }]) rfl (by decide) hz3
    have hcell : w4.cell? ⟨w3.heap.size, z, none⟩ = some (.string u) := (table_cell g4 HP3.out z).trans hu
    have HO4 := Lib.hid (HOB.out.src g4 hp); have HS4 := Lib.hid hs4; have HG4 := Lib.hid (grown_trans HGB.out g4)
    clear hz1 hs4 g4 HOB HSB HGB hu hz3
    have hin := (HO4.out.store HN.out.symm hkn Nd.zero).1
    generalize hxe : ndOf t k = x at hin
    obtain ⟨xi, xn, xf, xp⟩ := x
    obtain ⟨c0, c1, c2, c3⟩ := hin
    obtain ⟨f0, o5, b5⟩ := HO4.out.field (j := 1) (u := .string u) (y := ⟨xi, u, xf, xp⟩) HN.out.symm hkn (by omega) (by rw [hxe]; rfl)
    have hnm : xn.size ≤ 30 := by have h := HAny.out.2 _ (ndOf_mem hkt); rw [hxe] at h; exact h
    have HO5 := Lib.hid o5
    have HS5 := Lib.hid (HS4.out.belowB b5 hp); have HG5 := Lib.hid (grown_step HG4.out b5 (Nat.le_refl _))
    have HA5 := Lib.hid (anyT_set (k := k) (y := ⟨xi, u, xf, xp⟩) HAny.out hus)
    clear o5 b5 hxe HS4 HG4
    go_wp2_with fail
    go_ret
    exact ⟨_, _, rfl, HO5.out, HA5.out, HS5.out, HG5.out⟩
  have t1 : (y == 1) = false := by simp [h1]
  clear h1
  by_cases h2 : y = 2
  · subst h2
    have hbl : Below w3.heap.size w3 (w3.alloc (.cells #[.int .i64 (-1), .int .i64 1000, .int .i64 1001] 2)) := (Below.refl _ _).alloc (Nat.le_refl _) _
    have HSB := Lib.hid (HS3.out.below hbl); have HOB := Lib.hid (HO3.out.below hbl); have HGB := Lib.hid (grown_trans HG3.out (grown_of_below hbl))
    have hp3 : p < w3.heap.size := HS3.out.lt
    have HP3 := Lib.hid hp3; clear hbl hp3 HS3 HO3 HG3
    go_wp2_with fail
    refine (next_any _ _ _ HSB.out (by omega)).mono ?_
    rintro e w4 ⟨z, rfl, hz0, hz1, -, hs4, g4⟩
    have hz2 : z < 3 := hz1 (by omega)
    obtain ⟨z, rfl⟩ := Int.eq_ofNat_of_zero_le hz0
    have hz3 : z < 3 := by omega
    obtain ⟨u, hu⟩ := three_cell (cs := #[.int .i64 (-1), .int .i64 1000, .int .i64 1001]) rfl hz3
    have hcell : w4.cell? ⟨w3.heap.size, z, none⟩ = some (.int .i64 u) := (table_cell g4 HP3.out z).trans hu
    have HO4 := Lib.hid (HOB.out.src g4 hp); have HS4 := Lib.hid hs4; have HG4 := Lib.hid (grown_trans HGB.out g4)
    clear hz1 hs4 g4 HOB HSB HGB hu hz3
    have hin := (HO4.out.store HN.out.symm hkn Nd.zero).1
    generalize hxe : ndOf t k = x at hin
    obtain ⟨xi, xn, xf, xp⟩ := x
    obtain ⟨c0, c1, c2, c3⟩ := hin
    obtain ⟨f0, o5, b5⟩ := HO4.out.field (j := 2) (u := .int .i64 u) (y := ⟨xi, xn, u, xp⟩) HN.out.symm hkn (by omega) (by rw [hxe]; rfl)
    have hnm : xn.size ≤ 30 := by have h := HAny.out.2 _ (ndOf_mem hkt); rw [hxe] at h; exact h
    have HO5 := Lib.hid o5
    have HS5 := Lib.hid (HS4.out.belowB b5 hp); have HG5 := Lib.hid (grown_step HG4.out b5 (Nat.le_refl _))
    have HA5 := Lib.hid (anyT_set (k := k) (y := ⟨xi, xn, u, xp⟩) HAny.out hnm)
    clear o5 b5 hxe HS4 HG4
    go_wp2_with fail
    go_ret
    exact ⟨_, _, rfl, HO5.out, HA5.out, HS5.out, HG5.out⟩
  have t2 : (y == 2) = false := by simp [h2]
  clear h2
  by_cases h3 : y = 3
  · subst h3
    have hin := (HO3.out.store HN.out.symm hkn Nd.zero).1
    have hnm : (ndOf t k).name.size ≤ 30 := HAny.out.2 _ (ndOf_mem hkt)
    generalize hxe : ndOf t k = x at hin hnm
    obtain ⟨c0, c1, c2, c3⟩ := hin
    have hX : NdAt 59 (w3.alloc (.cells #[.int .i64 x.id, .string x.name, .int .i64 x.drift, .bool x.pas] 59)) w3.heap.size x := NdAt.new _
    have HX := Lib.hid hX
    have hap : anyT (t ++ [x]) := ⟨by rw [List.length_append, List.length_singleton, ← HN.out]; omega, fun z hz => by
      rcases List.mem_append.1 hz with hz | hz
      · exact HAny.out.2 z hz
      · rw [List.mem_singleton] at hz; subst hz; exact hnm⟩
    have HAP := Lib.hid hap
    have htl : t.length ≤ 5 := by rw [← HN.out]; omega
    clear hX hap hxe hnm
    go_wp2_with (at_builtin; refine append_nd _ rfl (.tmp 48) (.tmp 53) rfl w.heap.size Try.underlying24 infoNd _ t rfl (HO3.out.below ((Below.refl _ _).alloc (Nat.le_refl _) _)) _ x _ rfl HX.out.in_ (by omega) (by have := HG3.out.size; simp; omega) ?_; intro v6 w6 o6 b6)
    have hb6 : Below w.heap.size w3 w6 := ((Below.refl _ _).alloc HG3.out.size _).trans b6
    have HO6 := Lib.hid o6; have HS6 := Lib.hid (HS3.out.belowB hb6 hp); have HG6 := Lib.hid (grown_step HG3.out hb6 (Nat.le_refl _))
    clear o6 b6 hb6 c0 c1 c2 c3
    go_wp2_with fail
    go_ret
    exact ⟨_, _, rfl, HO6.out, HAP.out, HS6.out, HG6.out⟩
  have t3 : (y == 3) = false := by simp [h3]
  clear h3
  by_cases h4 : y = 4
  · subst h4
    go_wp2_with fail
    go_ret
    exact ⟨_, [], rfl, OwnN.nil_, ⟨by simp, fun x hx => by cases hx⟩, HS3.out, HG3.out⟩
  have t4 : (y == 4) = false := by simp [h4]
  clear h4
  go_wp2_with fail
  go_ret
  exact ⟨_, t, rfl, HO3.out, HAny.out, HS3.out, HG3.out⟩
end Go.Proofs.Ytpedlofckbplmaa
