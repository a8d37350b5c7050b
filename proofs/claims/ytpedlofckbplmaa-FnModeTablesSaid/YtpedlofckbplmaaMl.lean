/-
  Chapter 11: the draws of its laws; laws.hasInt.
-/
import Derived.Test.YtpedlofckbplmaaMk
import Derived.Test.YtpedlofckbplmaaR1
import Derived.Test.YtpedlofckbplmaaDrawA
namespace Go.Proofs.Ytpedlofckbplmaa
open Go.RowKit

/-- A drawn table; with two numbers beside it; a drawn list. -/
def DrawnMT (w : World) (e : Ending) (w' : World) : Prop := ∃ ao n cap cs, e = .returned (.slice ao n cap) ∧ RdM w' ao n cs ∧ anyMc cs ∧ Below w.heap.size w w'
def DrawnMII (w : World) (e : Ending) (w' : World) : Prop := ∃ ao n cap cs a b, e = .returned (.tuple #[.slice ao n cap, .int .i64 a, .int .i64 b]) ∧ RdM w' ao n cs ∧ anyMc cs ∧ Below w.heap.size w w'
def DrawnML (w : World) (e : Ending) (w' : World) : Prop := ∃ v xs, e = .returned v ∧ Own 2 w' w.heap.size v xs ∧ xs.length ≤ 1048576 ∧ Below w.heap.size w w'
theorem drawModeTableBytes_any (ao : Option Addr) (n cap : Nat) (cs : List Int) (w : World) (hr : RdB w w.heap.size ao n cs) (hn : n ≤ 1048576) :
    Calls Try.prog 26 #[.slice ao n cap] w (DrawnMT w) := by
  have HR := Lib.hid hr; clear hr
  go_enter Try.func26, Try.ntmps26
  go_wp2_with fail
  refine (from_any _ _ _ cs _ HR.out hn).mono ?_
  rintro e w1 ⟨p, rfl, hlo, hs1, hb1⟩
  have HS1 := Lib.hid hs1; have HB1 := Lib.hid hb1; clear hs1 hb1
  go_wp2_with fail
  refine (l11DrawAny_any p _ HS1.out).mono ?_
  rintro e w2 ⟨ao2, n2, cap2, ms, rfl, r2, -, ha, -, g2⟩
  have HR2 := Lib.hid r2; have HA2 := Lib.hid ha; have HB2 := Lib.hid (HB1.out.grown g2 HB1.out.size (fun k hk => by cases hk; exact hlo))
  clear r2 ha g2
  go_wp2_with fail
  go_ret
  exact ⟨_, _, _, ms, rfl, HR2.out, HA2.out, HB2.out⟩
theorem Own.cut {E base g n cap : Nat} {w : World} {xs : List Int} (h : Own E w base (.slice (some ⟨g, 0, none⟩) n cap) xs) (hl : xs.length = n) {k : Nat} (hk : k ≤ n) : Own E w base (.slice (some ⟨g, 0, none⟩) k cap) (xs.take k) := by
  obtain ⟨h1, h2⟩ := h
  rcases h2 with ⟨h2, -⟩ | ⟨g', cap', cur, e, hg, hh, hn, hcap, hsz, htake⟩
  · cases h2
  · simp only [Value.slice.injEq, Option.some.injEq, Addr.mk.injEq, and_true] at e
    obtain ⟨rfl, -, rfl⟩ := e
    have hlk : (xs.take k).length = k := by rw [List.length_take]; omega
    refine ⟨by simp, .inr ⟨g, cap, cur, by rw [hlk], hg, hh, by omega, hcap, hsz, ?_⟩⟩
    rw [hlk, List.map_take, ← htake, hl, List.take_take, Nat.mul_one, Nat.mul_one, Nat.min_eq_left hk]
set_option maxHeartbeats 1000000 in
set_option maxRecDepth 100000 in
theorem drawReadModeTable_any (ao : Option Addr) (n cap : Nat) (cs : List Int) (w : World) (hr : RdB w w.heap.size ao n cs) (hn : n ≤ 1048576) :
    Calls Try.prog 29 #[.slice ao n cap] w (DrawnML w) := by
  have HR := Lib.hid hr; clear hr
  go_enter Try.func29, Try.ntmps29
  go_wp2_with fail
  refine (from_any _ _ _ cs _ HR.out hn).mono ?_
  rintro e w1 ⟨p, rfl, hlo, hs1, hb1⟩
  have hp1 : p < w1.heap.size := hs1.lt
  have HS1 := Lib.hid hs1; have HB1 := Lib.hid hb1; clear hs1 hb1
  go_wp2_with fail
  refine (l11Draw_any p _ HS1.out).mono ?_
  rintro e w2 ⟨v, ms, rfl, o2, ⟨hl1, hl2⟩, hdr, hs2, g2⟩
  obtain ⟨a2, c2, rfl, o2, r2⟩ := o2.get
  have HS2 := Lib.hid hs2; have HB2 := Lib.hid (HB1.out.grown g2 HB1.out.size (fun k hk => by cases hk; exact hlo))
  have hp2 : p < w2.heap.size := hs2.lt
  have HB2s : w.heap.size ≤ w2.heap.size := HB2.out.size
  have hokb : (modeBytes (mds ms)).length ≤ 1000 := by
    have h1 := md_flat_le mdBytes 7 (mds ms) (fun x hx => by
      obtain ⟨c, hc, rfl⟩ := List.mem_map.1 hx
      have := hdr c hc
      rw [mdBytes_len]; omega)
    rw [mds_len] at h1
    unfold modeBytes
    rw [List.length_append, List.length_singleton]
    omega
  obtain ⟨t, ht⟩ : ∃ t, t = mds ms := ⟨_, rfl⟩
  clear o2 hs2 g2 hdr
  go_wp2_with fail
  refine (l11Bytes_any _ _ _ ms _ r2 (by omega) (by omega)).mono ?_
  rintro e w3 m3
  rw [← ht] at m3 hokb
  obtain ⟨p3, c3, rfl, o3, -, b3⟩ := m3.get
  have hsz3 : w2.heap.size ≤ w3.heap.size := b3.size
  have hlb : (modeBytes t).length ≤ 1000000 := by omega
  have hl0 : 0 < (modeBytes t).length := by unfold modeBytes; rw [List.length_append, List.length_singleton]; omega
  have HO3 := Lib.hid o3; have HS3 := Lib.hid (HS2.out.below b3); have HB3 := Lib.hid (below_two HB2.out b3)
  obtain ⟨L, hL⟩ : ∃ L, L = modeBytes t := ⟨_, rfl⟩
  rw [← hL] at HO3 hlb hl0 ⊢
  clear o3 b3 m3 r2 hokb HS2 HB2 hL ht
  go_wp2_with fail
  refine (drawBytes_any _ _ _ HS3.out (by omega) (by omega)).mono ?_
  rintro e w4 ⟨v4, xs, rfl, o4, hxl, hs4, g4⟩
  obtain ⟨a4, c4, rfl, o4, r4⟩ := o4.get
  have HO4 := Lib.hid (HO3.out.src g4 hp2); have HS4 := Lib.hid hs4; have HB4 := Lib.hid (HB3.out.grown g4 HB3.out.size (fun k hk => by cases hk; exact hlo))
  have hsz4 : w2.heap.size ≤ w4.heap.size := Nat.le_trans hsz3 g4.size
  clear hs4 g4 HO3 HS3 HB3 o4
  go_wp2_with (at_builtin; refine append_list _ rfl (.tmp 9) (.tmp 11) rfl w2.heap.size Try.underlying26 info64 _ L rfl HO4.out _ _ _ xs rfl r4 (by omega) hsz4 ?_; intro v5 w5 o5 b5)
  have HS5 := Lib.hid (HS4.out.belowB b5 hp2)
  have HB5 := Lib.hid (HB4.out.trans (b5.mono HB2s)); clear b5 HO4 HS4 HB4 r4
  have hXl : (L ++ xs).length ≤ 1048576 := by rw [List.length_append]; omega
  have hX0 : 0 < (L ++ xs).length := by rw [List.length_append]; omega
  obtain ⟨X, hX⟩ : ∃ X, X = L ++ xs := ⟨_, rfl⟩
  rw [← hX] at o5 hXl hX0
  obtain ⟨a5, c5, rfl, -, hc5, hm5, hcase⟩ := o5.form
  have hg : ∃ g, a5 = some ⟨g, 0, none⟩ := by
    rcases hcase with h | ⟨g, h, -⟩
    · simp only [Value.slice.injEq] at h; omega
    · exact ⟨g, h⟩
  obtain ⟨g, rfl⟩ := hg
  obtain ⟨m, hm⟩ : ∃ m, m = X.length := ⟨_, rfl⟩
  rw [← hm] at o5 hXl hX0 hc5 ⊢
  have hcm : c5 ≤ 9223372036854775807 := by unfold maxLen at hm5; omega
  have HM := Lib.hid hm; have HO5 := Lib.hid o5
  clear hm o5 hcase hm5 hX hlb hl0 hxl
  go_wp2_with fail
  refine (next_any _ _ _ HS5.out (by omega)).mono ?_
  rintro e w6 ⟨y, rfl, -, -, -, hs6, g6⟩
  have HO6 := Lib.hid (HO5.out.src g6 hp2); have HS6 := Lib.hid hs6; have HB6 := Lib.hid (HB5.out.grown g6 HB5.out.size (fun k hk => by cases hk; exact hlo)); clear hs6 g6 HO5 HS5 HB5
  by_cases h0 : y = 0
  · subst h0
    go_wp2_with fail
    refine (next_any _ _ _ HS6.out (by omega)).mono ?_
    rintro e w7 ⟨k, rfl, hk0, hk1, hk2, hs7, g7⟩
    obtain ⟨k, rfl⟩ := Int.eq_ofNat_of_zero_le hk0
    have hkm : k < m := by
      by_cases h : 1 < (m : Int)
      · have := hk1 h; omega
      · have := hk2 (by omega); omega
    have HO7 := Lib.hid (HO6.out.src g7 hp2); have HS7 := Lib.hid hs7; have HB7 := Lib.hid (HB6.out.grown g7 HB6.out.size (fun k hk => by cases hk; exact hlo)); clear hk1 hk2 hs7 g7 HO6 HS6 HB6
    go_wp2_with fail
    refine (next_any _ _ _ HS7.out (by omega)).mono ?_
    rintro e w8 ⟨z, rfl, -, -, -, hs8, g8⟩
    have HO8 := Lib.hid (HO7.out.src g8 hp2); have HB8 := Lib.hid (HB7.out.grown g8 HB7.out.size (fun k hk => by cases hk; exact hlo)); clear hs8 g8 HO7 HS7 HB7
    obtain ⟨hc8, hf8, ho9, hb9⟩ := own_store HO8.out HM.out.symm hkm z
    have HO9 := Lib.hid (ho9.more HB2s); have HB9 := Lib.hid (HB8.out.trans (hb9.mono HB2s)); clear ho9 hb9
    have hki : (k : Int) < (m : Int) := by omega
    generalize X.getD k 0 = u at hc8
    go_wp2_with fail
    go_ret
    exact ⟨_, _, rfl, HO9.out, by rw [List.length_set, ← HM.out]; omega, HB9.out⟩
  have t0 : (y == 0) = false := by simp [h0]
  clear h0
  by_cases h1 : y = 1
  · subst h1
    go_wp2_with fail
    refine (next_any _ _ _ HS6.out (by omega)).mono ?_
    rintro e w7 ⟨k, rfl, hk0, hk1, hk2, hs7, g7⟩
    obtain ⟨k, rfl⟩ := Int.eq_ofNat_of_zero_le hk0
    have hkm : k < m := by
      by_cases h : 1 < (m : Int)
      · have := hk1 h; omega
      · have := hk2 (by omega); omega
    have HO7 := Lib.hid ((HO6.out.src g7 hp2).cut HM.out.symm (Nat.le_of_lt hkm)); have HB7 := Lib.hid (HB6.out.grown g7 HB6.out.size (fun k hk => by cases hk; exact hlo)); clear hk1 hk2 hs7 g7 HO6 HS6 HB6
    have hkc : (k : Int) ≤ (c5 : Int) := by omega
    go_wp2_with fail
    go_ret
    exact ⟨_, _, rfl, HO7.out.more HB2s, by rw [List.length_take, ← HM.out]; omega, HB7.out⟩
  have t1 : (y == 1) = false := by simp [h1]
  clear h1
  go_wp2_with fail
  go_ret
  exact ⟨_, _, rfl, HO6.out.more HB2s, by rw [← HM.out]; exact hXl, HB6.out⟩
end Go.Proofs.Ytpedlofckbplmaa
