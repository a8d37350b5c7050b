/-
  Chapter 3: spec.l03Draw and what stands on it; laws.sum.
-/
import Derived.Test.YtfmbefmiglpijaaC3k
import Derived.Test.YtfmbefmiglpijaaDrawB
namespace Go.Proofs.Ytfmbefmiglpijaa
open Go.RowKit

/-- What a draw of an error list leaves: a short list, or one of noughts alone. -/
def DrawnErr (E T : Nat) (w : World) (p : Nat) (m : Int) (e : Ending) (w' : World) : Prop :=
  ∃ v xs, e = .returned v ∧ Own E w' w.heap.size v xs ∧ ((xs.length : Int) ≤ m ∨ xs.length ≤ 9000 ∧ ∀ x ∈ xs, x = 0) ∧ Src T w' p ∧ w.grownBy w' (some p)
set_option maxHeartbeats 1000000 in
theorem drawErr_any (p : Nat) (most : Int) (w : World) (hs : Src 94 w p) (hm0 : 0 ≤ most) (hm : most ≤ 1000) :
    Calls Try.prog 84 #[.pointer (some ⟨p, 0, none⟩), .int .i64 most] w (DrawnErr 2 94 w p (most + 1)) := by
  have hp := hs.lt
  go_enter Try.func84, Try.ntmps84
  go_wp2_with fail
  refine (next_any _ _ _ (hs.below ((Below.refl _ _).alloc (Nat.le_refl _) _)) (by omega)).mono ?_
  rintro e w1 ⟨n0, rfl, hn0, hn1, hn2, hs1, hg1⟩
  have o1 : Own 2 w1 w.heap.size (.slice (some ⟨w.heap.size, 0, none⟩) 0 0) [] := (Own.of_alloc_nil (Nat.le_refl _)).src hg1 hp
  have g1 : w.grownBy w1 (some p) := grown_trans (grown_of_below ((Below.refl _ _).alloc (Nat.le_refl _) _)) hg1
  have hn3 : n0 ≤ most := by
    rcases Int.lt_or_eq_of_le hm0 with h | h
    · have := hn1 (by omega); omega
    · have := hn2 (by omega); omega
  obtain ⟨n, rfl⟩ := Int.eq_ofNat_of_zero_le hn0
  clear hn0 hn1 hn2 hg1 hs
  go_wp2
  go_loopw [5, 6] (fun v i wr => ∃ (k : Nat) (xs : List Int), k ≤ n ∧ i = .int .i64 k ∧ xs.length = n - k ∧ Own 2 wr w.heap.size v xs ∧ Src 94 wr p ∧ w.grownBy wr (some p)) (fun _ i _ => (intOf i).toNat)
  case atStart => exact ⟨n, [], Nat.le_refl _, rfl, by simp, o1, hs1, g1⟩
  case round =>
    clear o1 hs1 g1
    obtain ⟨k, xs, hk, rfl, hxl, hown, hsr, hgr⟩ := hrel
    have hls : xs.length ≤ 4294967296 := by omega
    have hws := hgr.size
    have HX := Lib.hid hxl; clear hxl
    rcases k with _ | k
    · have hxn : (xs.length : Int) ≤ most := by rw [HX.out]; omega
      have hlt0 : ¬ (0 : Int) < ((0 : Nat) : Int) := by omega
      go_wp2_with fail
      refine (next_any _ _ _ hsr (by omega)).mono ?_
      rintro e w2 ⟨y, rfl, hy0, hy1, -, hs2, hg2⟩
      have o2 := hown.src hg2 hp
      have g2 := grown_trans hgr hg2
      have hw2 := g2.size
      clear hown hsr hgr hg2
      by_cases h0 : y = 0
      · subst h0
        have hlx : xs.length ≤ 4294967296 := by omega
        have hpw : p < w2.heap.size := by omega
        go_wp2_with fail
        refine (next_any _ _ _ (hs2.below ((Below.refl _ _).alloc (Nat.le_refl _) _)) (by omega)).mono ?_
        rintro e w3 ⟨z, rfl, hz0, hz1, -, hs3, hg3⟩
        have o3 := (o2.below ((Below.refl _ _).alloc (Nat.le_refl _) _)).src hg3 hp
        have g3 := grown_trans (grown_trans g2 (grown_of_below ((Below.refl _ _).alloc (Nat.le_refl _) _))) hg3
        have hw3 := g3.size
        have hct := table_cell hg3 hpw
        clear hg3 o2 g2 hs2
        have hz2 : z = 0 ∨ z = 1 := by omega
        rcases hz2 with rfl | rfl
        · have hc := hct 0
          simp only [List.getElem?_toArray, List.getElem?_cons_zero] at hc
          clear hct
          go_wp2_with (at_builtin; refine append_one _ rfl (.tmp 25) (.tmp 31) rfl w.heap.size Try.underlying26 info64 _ _ rfl (o3.below ((Below.refl _ _).alloc (Nat.le_refl _) _)) _ _ _ rfl (new_cell rfl) hlx (by simp; omega) ?_; intro v' w' hown' hbel')
          have hb' : Below w.heap.size w3 w' := ((Below.refl _ _).alloc hw3 _).trans hbel'
          go_ret
          exact ⟨_, _, rfl, hown', .inl (by rw [List.length_append, List.length_singleton]; omega), hs3.belowB hb' hp, grown_step g3 hb' (Nat.le_refl _)⟩
        · have hc := hct 1
          simp only [List.getElem?_toArray, List.getElem?_cons_succ, List.getElem?_cons_zero] at hc
          clear hct
          go_wp2_with (at_builtin; refine append_one _ rfl (.tmp 25) (.tmp 31) rfl w.heap.size Try.underlying26 info64 _ _ rfl (o3.below ((Below.refl _ _).alloc (Nat.le_refl _) _)) _ _ _ rfl (new_cell rfl) hlx (by simp; omega) ?_; intro v' w' hown' hbel')
          have hb' : Below w.heap.size w3 w' := ((Below.refl _ _).alloc hw3 _).trans hbel'
          go_ret
          exact ⟨_, _, rfl, hown', .inl (by rw [List.length_append, List.length_singleton]; omega), hs3.belowB hb' hp, grown_step g3 hb' (Nat.le_refl _)⟩
      · by_cases h1 : y = 1
        · subst h1
          clear h0
          go_wp2_with fail
          refine (next_any _ _ _ hs2 (by omega)).mono ?_
          rintro e w3 ⟨z, rfl, hz0, hz1, -, hs3, hg3⟩
          have g3 := grown_trans g2 hg3
          have hw3 := g3.size
          obtain ⟨z, rfl⟩ := Int.eq_ofNat_of_zero_le hz0
          have hz3 : z ≤ 2 := by omega
          clear hz0 hz1 hg3 o2 g2 hs2
          go_wp2_with (at_make; refine make_cap _ rfl _ _ rfl w.heap.size Try.underlying26 info64 _ _ _ _ (8191 + z) (8191 + z) rfl rfl (by omega) (by omega) (Nat.le_refl _) (by omega) hw3 ?_; intro w4 o4 b4)
          go_ret
          exact ⟨_, _, rfl, o4, .inr ⟨by simp; omega, fun x hx => List.eq_of_mem_replicate hx⟩, hs3.belowB b4 hp, grown_step g3 b4 (Nat.le_refl _)⟩
        · have t0 : (y == 0) = false := by simp [h0]
          have t1 : (y == 1) = false := by simp [h1]
          clear h0 h1
          go_wp2
          go_ret
          exact ⟨_, xs, rfl, o2, .inl (by omega), hs2, g2⟩
    · have hpos : (0 : Int) < ((k + 1 : Nat) : Int) := by omega
      go_wp2_with (first
        | (go_at_call 72; refine (next_any _ _ _ hsr (by omega)).mono ?_; rintro e w2 ⟨y, rfl, hy0, hy1, -, hs2, hg2⟩; have o2 := hown.src hg2 hp; have g2 := grown_trans hgr hg2)
        | (at_builtin; refine append_one _ rfl (.tmp 16) (.tmp 19) rfl w.heap.size Try.underlying26 info64 _ _ rfl (o2.below ((Below.refl _ _).alloc (Nat.le_refl _) _)) _ _ _ rfl (new_cell rfl) hls (by have := g2.size; simp; omega) ?_; intro v' w' hown' hbel'))
      have hb' : Below w.heap.size w2 w' := ((Below.refl _ _).alloc g2.size _).trans hbel'
      have s' := hs2.belowB hb' hp
      have g' := grown_step g2 hb' (Nat.le_refl _)
      go_roundw
      case rel => exact ⟨k, xs ++ [y], by omega, by go_num, by rw [List.length_append, HX.out, List.length_singleton]; omega, hown', s', g'⟩
      case measure => simp [intOf]

set_option maxHeartbeats 1000000 in
/-- spec.l03Draw. -/
theorem l03Draw_any (p : Nat) (w : World) (hs : Src 94 w p) :
    Calls Try.prog 69 #[.pointer (some ⟨p, 0, none⟩)] w (DrawnErr 2 94 w p 62) := by
  have hp := hs.lt
  go_enter Try.func69, Try.ntmps69
  go_wp2_with fail
  refine (next_any _ _ _ hs (by omega)).mono ?_
  rintro e w1 ⟨y, rfl, -, -, -, hs1, g1⟩
  by_cases h0 : y = 0
  · subst h0
    go_wp2_with fail
    refine (drawErr_any _ _ _ hs1 (by omega) (by omega)).mono ?_
    rintro e w2 ⟨v, xs, rfl, o2, hx, hs2, g2⟩
    have O2 := Lib.hid (o2.more g1.size); clear o2
    have G2 := Lib.hid (grown_trans g1 g2); clear g2 g1
    have hx' : (xs.length : Int) ≤ 62 ∨ xs.length ≤ 9000 ∧ ∀ x ∈ xs, x = 0 := by
      rcases hx with h | h
      · exact .inl (by omega)
      · exact .inr h
    have HX := Lib.hid hx'; clear hx hx'
    go_wp2
    go_ret
    exact ⟨_, xs, rfl, O2.out, HX.out, hs2, G2.out⟩
  · have t0 : (y == 0) = false := by simp [h0]
    clear h0
    go_wp2_with fail
    refine (next_any _ _ _ hs1 (by omega)).mono ?_
    rintro e w2 ⟨z, rfl, hz0, hz1, -, hs2, g2⟩
    have g2 := grown_trans g1 g2
    obtain ⟨m, hm⟩ : ∃ m : Nat, 1 + z = (m : Int) := ⟨(1 + z).toNat, by omega⟩
    have hm1 : 1 ≤ m := by omega
    have hm2 : m ≤ 60 := by have := hz1 (by omega); omega
    clear hz0 hz1 g1 hs1
    have hp2 := hs2.lt
    go_wp2_with (at_make; refine make_cap _ rfl _ _ rfl w2.heap.size Try.underlying26 info64 _ _ _ _ m m rfl rfl (by omega) (by omega) (Nat.le_refl _) (by omega) (Nat.le_refl _) ?_; intro w3 o3 b3)
    have hs3 := hs2.below b3
    have g3 := grown_trans g2 (grown_of_below b3)
    clear hs2
    have hsz3 := b3.size
    have hw3 := g2.size
    refine (next_any _ _ _ hs3 (by omega)).mono ?_
    rintro e w4 ⟨c, rfl, hc0, hc1, -, hs4, g4⟩
    obtain ⟨c, rfl⟩ := Int.eq_ofNat_of_zero_le hc0
    have o4 := o3.src g4 hp2
    have g5 := grown_trans g3 g4
    have O4 := Lib.hid o4
    have G5 := Lib.hid g5
    have S4 := Lib.hid hs4
    obtain ⟨B, hB⟩ : ∃ B, B = w2.heap.size := ⟨_, rfl⟩
    have hBp : p < B := by omega
    have hBw : w.heap.size ≤ B := by omega
    rw [← hB] at O4 ⊢
    have hc4 : c ≤ 4 := by have := hc1 (by omega); omega
    clear o3 b3 hs3 g3 g4 g5 o4 hs4 g2 hc0 hc1 hsz3 hw3 hp2 hB
    go_wp2
    go_loopw [4] (fun i wr => ∃ (k : Nat) (xs : List Int), k ≤ 4 ∧ i = .int .i64 k ∧ xs.length = m ∧ Own 2 wr B (.slice (some ⟨B, 0, none⟩) m m) xs ∧ Src 94 wr p ∧ w.grownBy wr (some p)) (fun i _ => (intOf i).toNat)
    case atStart => exact ⟨c, List.replicate m 0, hc4, rfl, by simp, O4.out, S4.out, G5.out⟩
    case round =>
      clear O4 G5 S4
      obtain ⟨k, xs, hk4, rfl, hxl, hown, hsr, hgr⟩ := hrel
      have HO := Lib.hid hown; clear hown
      have HG := Lib.hid hgr; clear hgr
      rcases k with _ | k
      · have hl0 : ¬ (0 : Int) < ((0 : Nat) : Int) := by omega
        go_wp2
        go_ret
        exact ⟨_, xs, rfl, HO.out.more hBw, .inl (by omega), hsr, HG.out⟩
      · have hpos : (0 : Int) < ((k + 1 : Nat) : Int) := by omega
        go_wp2_with fail
        refine (next_any _ _ _ hsr (by omega)).mono ?_
        rintro e w5 ⟨x, rfl, hx0, hx1, hx2, hs5, g5⟩
        obtain ⟨x, rfl⟩ := Int.eq_ofNat_of_zero_le hx0
        have hxm : x < m := by
          rcases Nat.lt_or_ge 1 m with h | h
          · have := hx1 (by omega); omega
          · have := hx2 (by omega); omega
        have hxi : (x : Int) < (m : Int) := by omega
        obtain ⟨hd1, hf1, o6, b6⟩ := own_store (HO.out.src g5 (by omega)) hxl hxm 1
        have hsz := HG.out.size
        have hsz5 := g5.size
        have O6 := Lib.hid o6
        have S6 := Lib.hid (hs5.belowB b6 (by omega))
        have G6 := Lib.hid (grown_step (grown_trans HG.out g5) b6 hBw)
        clear o6 b6 g5 hs5 hx0 hx1 hx2 hsr HO HG
        obtain ⟨z1, hz1⟩ : ∃ z, z = xs.getD x 0 := ⟨_, rfl⟩
        rw [← hz1] at hd1
        clear hz1
        go_wp2
        go_roundw
        case rel => exact ⟨k, xs.set x 1, by omega, by go_num, by rw [List.length_set]; exact hxl, O6.out, S6.out, G6.out⟩
        case measure => simp [intOf]

/-- laws.sum. -/
theorem sum_any (ao : Option Addr) (n cap : Nat) (xs : List Int) (w : World) (hr : Rd w ao n xs) (hn : n ≤ 1048576) (hbits : ∀ x ∈ xs, 0 ≤ x ∧ x ≤ 1) :
    Calls Try.prog 38 #[.slice ao n cap] w fun e w' => e = .returned (.int .i64 (weight xs)) ∧ w = w' := by
  obtain ⟨hlen, hat⟩ := hr
  have HL := Lib.hid hlen; clear hlen
  have HA := Lib.hid hat; clear hat
  have HZ := Lib.hid hbits; clear hbits
  go_enter Try.func38, Try.ntmps38
  go_wp2
  go_loop [3, 4] (fun v i => ∃ (k : Nat) (y : Int), k ≤ n ∧ i = .int .i64 k ∧ v = .int .i64 y ∧ 0 ≤ y ∧ y ≤ k ∧ Hid (weight (xs.take k) = y)) (fun _ i => n - (intOf i).toNat)
  case atStart => exact ⟨0, 0, Nat.zero_le _, rfl, rfl, by omega, by omega, rfl⟩
  case round =>
    obtain ⟨k, y, hk, rfl, rfl, hy0, hy1, HY⟩ := hrel
    by_cases hlt : k < n
    · obtain ⟨b, off, rfl, hall⟩ := HA.out (by omega)
      have hck := hall k hlt
      clear hall
      have hkx : k < xs.length := by rw [HL.out]; exact hlt
      have hb0 := HZ.out (xs.getD k 0) (getD_mem' hkx)
      have hfin : weight (xs.take (k + 1)) = y + xs.getD k 0 := by rw [weight_take xs k hkx, HY.out]
      obtain ⟨x, hx⟩ : ∃ x, x = xs.getD k 0 := ⟨_, rfl⟩
      rw [← hx] at hck hb0 hfin
      obtain ⟨hb0, hb1⟩ := hb0
      have HF := Lib.hid hfin; clear hfin hx hkx HY HZ HL HA
      go_wp2
      go_round
      case rel => exact ⟨k + 1, y + x, by omega, by go_num, rfl, by omega, by omega, HF⟩
      case measure => simp [intOf]; omega
    · have hkn : k = n := by omega
      subst hkn
      have hfin : y = weight xs := by rw [← HY.out, List.take_of_length_le (by rw [HL.out]; exact Nat.le_refl _)]
      have HF := Lib.hid hfin; clear hfin
      go_wp2
      go_ret
      exact ⟨ret_int HF.out, rfl⟩
end Go.Proofs.Ytfmbefmiglpijaa
