/-
  laws.likeInts; a number is read from where it has been appended, and appended as the bits from which it has been read; DrawNumberAt.
-/
import Derived.Test.YtadmpfmpmpdbeaaHeldS
import Derived.Test.YtadmpfmpmpdbeaaRound
namespace Go.Proofs.Ytadmpfmpmpdbeaa
open Go.RowKit

/-- laws.likeInts: whether two slices read as the same list. -/
theorem like_any (ao bo : Option Addr) (n m c d : Nat) (xs ys : List Int) (w : World) (hx : Rd w ao n xs) (hy : Rd w bo m ys) (hn : n ≤ 9223372036854775807) (hm : m ≤ 9223372036854775807) :
    Calls Try.prog 22 #[.slice ao n c, .slice bo m d] w fun e w' => e = .returned (.bool (decide (xs = ys))) ∧ ∃ q, w' = w.drewN q := by
  obtain ⟨hxl, hxa⟩ := hx
  obtain ⟨hyl, hya⟩ := hy
  by_cases hnm : n = m
  · subst hnm
    have XL := Lib.hid hxl; clear hxl
    have XA := Lib.hid hxa; clear hxa
    have YL := Lib.hid hyl; clear hyl
    have YA := Lib.hid hya; clear hya
    have hne : ((n : Int) != (n : Int)) = false := by simp
    go_enter Try.func22, Try.ntmps22
    go_wp2
    clear hne
    go_loopw [5] (fun i wr => ∃ k : Nat, k ≤ n ∧ i = .int .i64 k ∧ Hid (xs.take k = ys.take k) ∧ ∃ q, wr = w.drewN q) (fun i _ => n - (intOf i).toNat)
    case atStart => exact ⟨0, Nat.zero_le _, rfl, rfl, 0, rfl⟩
    case round =>
      obtain ⟨k, hk, rfl, heq, q, rfl⟩ := hrel
      by_cases hlt : k < n
      · obtain ⟨b, off, rfl, hc⟩ := XA.out (by omega)
        obtain ⟨b', off', rfl, hc'⟩ := YA.out (by omega)
        have hck : w.cell? ⟨b, off + k, none⟩ = some (.int .i64 (xs.getD k 0)) := hc k hlt
        have hck' : w.cell? ⟨b', off' + k, none⟩ = some (.int .i64 (ys.getD k 0)) := hc' k hlt
        clear hc hc' XA YA
        obtain ⟨x, hx⟩ : ∃ x, x = xs.getD k 0 := ⟨_, rfl⟩
        obtain ⟨y, hy⟩ : ∃ y, y = ys.getD k 0 := ⟨_, rfl⟩
        rw [← hx] at hck
        rw [← hy] at hck'
        have HX := Lib.hid hx; clear hx
        have HY := Lib.hid hy; clear hy
        by_cases hxy : x = y
        · have hd : (x != y) = false := by simp [hxy]
          have HXY := Lib.hid hxy; clear hxy
          go_wp2
          go_quiet (fail)
          go_wp2
          go_roundw
          case rel => exact ⟨k + 1, by omega, by go_num, take_eq_succ (by rw [XL.out]; exact hlt) (by rw [YL.out]; exact hlt) heq.out (by rw [← HX.out, ← HY.out]; exact HXY.out), _, rfl⟩
          case measure => simp [intOf]; omega
        · have hd : (x != y) = true := by simp [hxy]
          have HXY := Lib.hid hxy; clear hxy
          go_wp2
          go_quiet (fail)
          go_wp2
          go_ret
          exact ⟨ret_bool (ne_of_getD (k := k) (by rw [← HX.out, ← HY.out]; exact HXY.out)).symm, _, World.drewN_drewN _ _ _⟩
      · have hkn : k = n := by omega
        subst hkn
        go_wp2
        go_ret
        exact ⟨ret_bool (decide_eq_true (list_eq_of_take XL.out YL.out heq.out)).symm, _, rfl⟩
  · have hne : ((n : Int) != (m : Int)) = true := by simp; omega
    have hf : decide (xs = ys) = false := ne_of_len (by rw [hxl, hyl]; exact hnm)
    rw [hf]
    clear hxl hyl hxa hya hf hnm
    go_enter Try.func22, Try.ntmps22
    go_wp2
    go_ret
    exact ⟨rfl, 0, rfl⟩
/-- laws.likeInts of two equal lists. -/
theorem like_yes (ao bo : Option Addr) (n m c d : Nat) (xs : List Int) (w : World) (hx : Rd w ao n xs) (hy : Rd w bo m xs) (hn : n ≤ 9223372036854775807) :
    Calls Try.prog 22 #[.slice ao n c, .slice bo m d] w fun e w' => e = .returned (.bool true) ∧ Below w.heap.size w w' := by
  have hm : m ≤ 9223372036854775807 := by have := hx.len; have := hy.len; omega
  refine (like_any ao bo n m c d xs xs w hx hy hn hm).mono ?_
  rintro e w' ⟨he, q, rfl⟩
  exact ⟨by rw [he]; simp, below_drewN' (Below.refl _ _) q⟩


/-- A number is read from where it has been appended. -/
theorem number_round {xs out : List Int} {v width : Int} (h : appendNumber xs v width = (out, 0)) : out.length ≤ 8192 ∧ xs.length ≤ out.length ∧ out.take xs.length = xs ∧ numberAt out xs.length width = (v, 0) := by
  have hlen := appendNumber_len xs v width
  rw [h] at hlen
  unfold appendNumber at h
  split at h
  · cases h
  · split at h
    · cases h
    · split at h
      · cases h
      · rename_i h1 h2 h3
        have h1 := isBits_iff.1 (by simpa using h1)
        simp only [not_or, Decidable.not_not] at h2
        obtain ⟨⟨hw0, hw1⟩, hv0, hv1⟩ := h2
        simp only [Prod.mk.injEq, and_true] at h
        subst h
        obtain ⟨wd, rfl⟩ := Int.eq_ofNat_of_zero_le hw0
        rw [Int.toNat_natCast] at *
        have hol : (xs ++ bitsOf v wd).length = xs.length + wd := by rw [List.length_append, bitsOf_len]
        have hbits : isBits (xs ++ bitsOf v wd) = true := isBits_iff.2 ⟨by omega, fun x hx => by
          rcases List.mem_append.1 hx with hx | hx
          · exact h1.2 x hx
          · exact bitsOf_bits v wd x hx⟩
        refine ⟨hlen, by omega, by simp, ?_⟩
        rw [na_0 hbits ⟨hw0, hw1⟩ ⟨by omega, by rw [hol]; omega⟩]
        simp only [Int.toNat_natCast, List.drop_left]
        rw [List.take_of_length_le (by rw [bitsOf_len]; exact Nat.le_refl _), numOf_bitsOf v wd hv0 hv1]
/-- A number that is read is appended as the same bits. -/
theorem number_back {xs : List Int} {at_ width x : Int} (h : numberAt xs at_ width = (x, 0)) :
    ∃ a wd : Nat, at_ = a ∧ width = wd ∧ a + wd ≤ xs.length ∧ xs.length ≤ 8192 ∧ wd ≤ 40 ∧ appendNumber (xs.take a) x width = (xs.take (a + wd), 0) := by
  unfold numberAt at h
  split at h
  · cases h
  · split at h
    · cases h
    · rename_i h1 h2
      have h1 := isBits_iff.1 (by simpa using h1)
      simp only [not_or, Decidable.not_not] at h2
      obtain ⟨⟨hw0, hw1⟩, hv0, hv1⟩ := h2
      obtain ⟨wd, rfl⟩ := Int.eq_ofNat_of_zero_le hw0
      obtain ⟨a, rfl⟩ := Int.eq_ofNat_of_zero_le hv0
      simp only [Int.toNat_natCast, Prod.mk.injEq, and_true] at h
      subst h
      have hl : ((xs.drop a).take wd).length = wd := by rw [List.length_take, List.length_drop]; omega
      have hb : ∀ x ∈ (xs.drop a).take wd, 0 ≤ x ∧ x ≤ 1 := fun x hx => h1.2 x (List.mem_of_mem_drop (List.mem_of_mem_take hx))
      have hbd := numOf_bound _ hb
      rw [hl] at hbd
      have htl : (xs.take a).length = a := by rw [List.length_take]; omega
      refine ⟨a, wd, rfl, rfl, by omega, h1.1, by omega, ?_⟩
      rw [an_0 (isBits_iff.2 ⟨by omega, fun x hx => h1.2 x (List.mem_of_mem_take hx)⟩) ⟨hw0, hw1⟩ (by simpa using hbd) (by rw [htl]; omega), Int.toNat_natCast, bitsOf_numOf wd _ hl hb, List.take_add]

theorem Rd.front {w : World} {ao : Option Addr} {n : Nat} {xs : List Int} (h : Rd w ao n xs) {k : Nat} (hk : k ≤ n) : Rd w ao k (xs.take k) := by
  have hl := h.len
  refine ⟨by rw [List.length_take]; omega, fun h0 => ?_⟩
  obtain ⟨b, off, rfl, hc⟩ := h.here (by omega)
  exact ⟨b, off, rfl, fun i hi => by rw [hc i (by omega)]; simp [List.getD, hi]⟩
theorem appendNumber_at (ao : Option Addr) (n cap : Nat) (xs : List Int) (val width : Int) (w : World) (hr : Rd w ao n xs) (hn : n ≤ 1048576) :
    Calls Try.prog 70 #[.slice ao n cap, .int .i64 val, .int .i64 width] w (Makes2 2 w (appendNumber xs val width).1 (appendNumber xs val width).2) := by
  obtain rfl := hr.len
  exact appendNumber_any ao cap xs val width w hr hn

end Go.Proofs.Ytadmpfmpmpdbeaa
