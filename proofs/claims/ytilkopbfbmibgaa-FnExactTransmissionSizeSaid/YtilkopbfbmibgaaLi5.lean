/-
  Chapter 18: the program's BytesOfLine, ShapeOfLine, IsLine, DataCells.
-/
import Derived.Test.YtilkopbfbmibgaaLi4
import Derived.BigQuiet
namespace Go.Proofs.Ytilkopbfbmibgaa
open Go.RowKit

def shapeOfLine (xs : List Int) : Int × Int × Int × Int := ((lineOf xs).1.1, (lineOf xs).1.2.1, ((lineOf xs).1.2.2.length : Int), (lineOf xs).2)
theorem lineOf_len (xs : List Int) : (lineOf xs).1.2.2.length ≤ 1024 := by
  rcases hb : isBits xs with _ | _
  · rw [ln_1 hb]; simp
  · unfold lineOf
    rw [if_neg (by rw [hb]; simp)]
    split
    · simp
    · rename_i i p d h
      obtain ⟨hn, hbits⟩ := isBits_iff.1 hb
      obtain ⟨-, -, h3, -⟩ := parse_back hbits h
      show d.length ≤ 1024
      omega
theorem ln_box {T : Nat} {w w1 : World} (h : Below w.heap.size w w1) (v : Value) (i p : Int) :
    LnAt T (w1.alloc (.cells #[.int .i64 i, .int .i64 p, v] T)) w1.heap.size i p v ∧ Below w.heap.size w (w1.alloc (.cells #[.int .i64 i, .int .i64 p, v] T)) ∧
      (∀ {E : Nat} {d : List Int}, Own E w1 w.heap.size v d → Own E (w1.alloc (.cells #[.int .i64 i, .int .i64 p, v] T)) w.heap.size v d) :=
  ⟨LnAt.new w1, h.alloc h.size _, fun ho => ho.below ((Below.refl _ _).alloc (Nat.le_refl _) _)⟩

theorem bytesOfLine_any (ao : Option Addr) (cap : Nat) (xs : List Int) (w : World) (hr : Rd w ao xs.length xs) (hn : xs.length ≤ 1048576) (hcap : xs.length ≤ cap) (hcap2 : cap ≤ 9223372036854775807) :
    Calls Try.prog 21 #[.slice ao xs.length cap] w (Makes2 2 w (bytesOfLine xs).1 (bytesOfLine xs).2) := by
  have HLL := lineOf_len xs
  have HLN := Lib.hid (lineOf_any ao xs.length cap xs w hr hn hcap hcap2)
  obtain ⟨⟨⟨i, p, d⟩, c⟩, hq⟩ : ∃ q, lineOf xs = q := ⟨_, rfl⟩
  unfold bytesOfLine
  rw [hq] at HLN HLL ⊢
  clear hq hr
  simp only at HLL ⊢
  go_enter Try.func21, Try.ntmps21
  go_upto_region 2 with (go_at_call 54; refine HLN.out.mono ?_; rintro e w1 ⟨v, rfl, o1, b1⟩; obtain ⟨a, cc, rfl, o2, -⟩ := o1.get; clear o1)
  obtain ⟨hL, hB, hO⟩ := ln_box (T := 65) b1 (.slice a d.length cc) i p
  have o3 := hO o2
  generalize w1.alloc (.cells #[.int .i64 i, .int .i64 p, .slice a d.length cc] 65) = w2 at hL hB o3 ⊢
  clear hO
  have c0 := hL.c0
  have c1 := hL.c1
  have c2 := hL.c2
  go_wp2
  go_ret2
  exact ⟨_, rfl, o3, hB⟩
theorem shapeOfLine_any (ao : Option Addr) (cap : Nat) (xs : List Int) (w : World) (hr : Rd w ao xs.length xs) (hn : xs.length ≤ 1048576) (hcap : xs.length ≤ cap) (hcap2 : cap ≤ 9223372036854775807) :
    Calls Try.prog 22 #[.slice ao xs.length cap] w fun e w' => e = .returned (.tuple #[.int .i64 (shapeOfLine xs).1, .int .i64 (shapeOfLine xs).2.1, .int .i64 (shapeOfLine xs).2.2.1, .int .i64 (shapeOfLine xs).2.2.2]) ∧ Below w.heap.size w w' := by
  have HLL := lineOf_len xs
  have HLN := Lib.hid (lineOf_any ao xs.length cap xs w hr hn hcap hcap2)
  obtain ⟨⟨⟨i, p, d⟩, c⟩, hq⟩ : ∃ q, lineOf xs = q := ⟨_, rfl⟩
  unfold shapeOfLine
  rw [hq] at HLN HLL ⊢
  clear hq hr
  simp only at HLL ⊢
  go_enter Try.func22, Try.ntmps22
  go_upto_region 2 with (go_at_call 54; refine HLN.out.mono ?_; rintro e w1 ⟨v, rfl, o1, b1⟩; obtain ⟨a, cc, rfl, o2, -⟩ := o1.get; clear o1)
  obtain ⟨hL, hB, hO⟩ := ln_box (T := 65) b1 (.slice a d.length cc) i p
  have o3 := hO o2
  generalize w1.alloc (.cells #[.int .i64 i, .int .i64 p, .slice a d.length cc] 65) = w2 at hL hB o3 ⊢
  clear hO
  have c0 := hL.c0
  have c1 := hL.c1
  have c2 := hL.c2
  go_wp2
  go_quiet (fail)
  go_wp2
  exact bodyPost_ret (v := .tuple #[.int .i64 i, .int .i64 p, .int .i64 (d.length : Int), .int .i64 c]) (by simp [results, Try.results22, go_sem]) rfl ⟨rfl, below_drewN' hB _⟩
theorem isLine_any (ao : Option Addr) (cap : Nat) (xs : List Int) (w : World) (hr : Rd w ao xs.length xs) (hn : xs.length ≤ 1048576) (hcap : xs.length ≤ cap) (hcap2 : cap ≤ 9223372036854775807) :
    Calls Try.prog 24 #[.slice ao xs.length cap] w fun e w' => e = .returned (.bool (isLine xs)) ∧ Below w.heap.size w w' := by
  have HLL := lineOf_len xs
  have HLN := Lib.hid (lineOf_any ao xs.length cap xs w hr hn hcap hcap2)
  obtain ⟨⟨⟨i, p, d⟩, c⟩, hq⟩ : ∃ q, lineOf xs = q := ⟨_, rfl⟩
  unfold isLine
  rw [hq] at HLN HLL ⊢
  clear hq hr
  simp only at HLL ⊢
  go_enter Try.func24, Try.ntmps24
  go_upto_region 2 with (go_at_call 54; refine HLN.out.mono ?_; rintro e w1 ⟨v, rfl, o1, b1⟩; obtain ⟨a, cc, rfl, o2, -⟩ := o1.get; clear o1)
  obtain ⟨hL, hB, hO⟩ := ln_box (T := 65) b1 (.slice a d.length cc) i p
  have o3 := hO o2
  generalize w1.alloc (.cells #[.int .i64 i, .int .i64 p, .slice a d.length cc] 65) = w2 at hL hB o3 ⊢
  clear hO
  have c0 := hL.c0
  have c1 := hL.c1
  have c2 := hL.c2
  go_wp2
  go_ret
  exact ⟨rfl, hB⟩
theorem dc_no {xs : List Int} {c : Int} (h : (lineOf xs).2 = c) (h0 : c ≠ 0) : dataCells xs = ([], c) := by unfold dataCells; rw [h, if_neg h0]
theorem dc_yes {xs d : List Int} {i p : Int} (h : lineOf xs = ((i, p, d), 0)) : dataCells xs = (placesTo (i + p + 1) d.length, 0) := by unfold dataCells; rw [h, if_pos rfl]

/-- The places of the first cells of one byte. -/
def eightTo (A : Int) (k j : Nat) : List Int := (List.range j).map fun (q : Nat) => A + 10 * (k : Int) + 2 + (q : Int)
theorem eightTo_succ (A : Int) (k j : Nat) : eightTo A k (j + 1) = eightTo A k j ++ [A + 10 * (k : Int) + 2 + (j : Int)] := by simp [eightTo, List.range_succ]
theorem eightTo_len (A : Int) (k j : Nat) : (eightTo A k j).length = j := by simp [eightTo]
theorem placesTo_succ (A : Int) (k : Nat) : placesTo A (k + 1) = placesTo A k ++ eightTo A k 8 := by simp [placesTo, eightTo, List.range_succ]
theorem placesTo_size (A : Int) (n : Nat) : (placesTo A n).length = 8 * n := by
  induction n with
  | zero => rfl
  | succ n ih => rw [placesTo_succ, List.length_append, ih, eightTo_len]; omega
theorem lineOf_small {xs d : List Int} {i p : Int} (h : lineOf xs = ((i, p, d), 0)) : 0 ≤ i ∧ i ≤ 8192 ∧ 0 ≤ p ∧ p ≤ 15 := by
  rcases hb : isBits xs with _ | _
  · rw [ln_1 hb] at h; cases h
  · unfold lineOf at h
    rw [if_neg (by rw [hb]; simp)] at h
    split at h
    · cases h
    · rename_i j q e heq
      obtain ⟨hn, hbits⟩ := isBits_iff.1 hb
      obtain ⟨h1, -, h3, -⟩ := parse_back hbits heq
      simp only [Prod.mk.injEq, and_true] at h
      obtain ⟨rfl, rfl, rfl⟩ := h
      omega
set_option maxHeartbeats 800000 in
theorem dataCells_any (ao : Option Addr) (cap : Nat) (xs : List Int) (w : World) (hr : Rd w ao xs.length xs) (hn : xs.length ≤ 1048576) (hcap : xs.length ≤ cap) (hcap2 : cap ≤ 9223372036854775807) :
    Calls Try.prog 28 #[.slice ao xs.length cap] w (Makes2 2 w (dataCells xs).1 (dataCells xs).2) := by
  have HLL := lineOf_len xs
  have HLN := Lib.hid (lineOf_any ao xs.length cap xs w hr hn hcap hcap2)
  obtain ⟨⟨⟨i, p, d⟩, c⟩, hq⟩ : ∃ q, lineOf xs = q := ⟨_, rfl⟩
  have hq' := hq
  rw [hq] at HLN HLL
  clear hr
  simp only at HLL
  by_cases h0 : c = 0
  rotate_left
  · rw [dc_no (by rw [hq]) h0]
    have hd : (c != 0) = true := by simp [h0]
    clear hq hq' h0
    go_enter Try.func28, Try.ntmps28
    go_upto_region 2 with (go_at_call 54; refine HLN.out.mono ?_; rintro e w1 ⟨v, rfl, o1, b1⟩; obtain ⟨a, cc, rfl, o2, -⟩ := o1.get; clear o1)

    obtain ⟨hL, hB, hO⟩ := ln_box (T := 65) b1 (.slice a d.length cc) i p
    have o3 := hO o2
    generalize w1.alloc (.cells #[.int .i64 i, .int .i64 p, .slice a d.length cc] 65) = w2 at hL hB o3 ⊢
    clear hO
    have c0 := hL.c0
    have c1 := hL.c1
    have c2 := hL.c2
    go_wp2
    go_ret2
    exact ⟨_, rfl, Own.nil_, hB⟩
  subst h0
  obtain ⟨i0, i1, p0, p1⟩ := lineOf_small hq
  obtain ⟨A, hA⟩ : ∃ A, i + p + 1 = A := ⟨_, rfl⟩
  rw [dc_yes hq, hA]
  clear hq hq'
  have hd : ((0 : Int) != 0) = false := rfl
  go_enter Try.func28, Try.ntmps28
  go_upto_region 2 with (go_at_call 54; refine HLN.out.mono ?_; rintro e w1 ⟨v, rfl, o1, b1⟩; obtain ⟨a, cc, rfl, o2, -⟩ := o1.get; clear o1)
  obtain ⟨hL, hB, hO⟩ := ln_box (T := 65) b1 (.slice a d.length cc) i p
  have o3 := hO o2
  generalize w1.alloc (.cells #[.int .i64 i, .int .i64 p, .slice a d.length cc] 65) = w2 at hL hB o3 ⊢
  clear hO
  have c0 := hL.c0
  have c1 := hL.c1
  have c2 := hL.c2
  have hw1 : IntKind.i64.wrap (i + p) = i + p := by rw [IntKind.wrap_i64]; omega
  have hw2 : IntKind.i64.wrap (i + p + 1) = A := by rw [IntKind.wrap_i64]; omega
  go_upto_region 7 with fail
  clear hw1 hw2 c0 c1 c2 hd b1 o2 o3
  have hA0 : 0 ≤ A ∧ A ≤ 8300 := by omega
  obtain ⟨hA1, hA2⟩ := hA0
  clear hA i0 i1 p0 p1 hL
  go_loopw [6, 7, 25] (fun v at_ k wr => ∃ j : Nat, j ≤ d.length ∧ k = .int .i64 j ∧ at_ = .int .i64 (A + 10 * (j : Int)) ∧ Hid (Own 2 wr w.heap.size v (placesTo A j)) ∧ Hid (Below w.heap.size w wr)) (fun _ _ k _ => d.length - (intOf k).toNat)
  case atStart => exact ⟨0, Nat.zero_le _, rfl, by simp, Lib.hid Own.nil_, Lib.hid hB⟩
  case round =>
    obtain ⟨k, hk, rfl, rfl, HO, HB⟩ := hrel
    by_cases hlt : k < d.length
    · have hw1 : IntKind.i64.wrap (A + 10 * (k : Int) + 2) = A + 10 * (k : Int) + 2 := by rw [IntKind.wrap_i64]; omega
      have HPS := Lib.hid (placesTo_succ A k)
      go_upto_region 10 with fail
      go_loopw [6, 7, 29] (fun v at_ j wr => ∃ q : Nat, q ≤ 8 ∧ j = .int .i64 q ∧ at_ = .int .i64 (A + 10 * (k : Int) + 2 + (q : Int)) ∧ Hid (Own 2 wr w.heap.size v (placesTo A k ++ eightTo A k q)) ∧ Hid (Below w.heap.size w wr)) (fun _ _ j _ => 8 - (intOf j).toNat)
      case atStart => exact ⟨0, by omega, rfl, by simp, Lib.hid (by simpa [eightTo] using HO.out), HB⟩
      case round =>
        clear HO HB
        obtain ⟨q, hq8, rfl, rfl, HO, HB⟩ := hrel
        by_cases hq : q < 8
        · have hlen : (placesTo A k ++ eightTo A k q).length ≤ 4294967296 := by rw [List.length_append, placesTo_size, eightTo_len]; omega
          have hbs := HB.out.size
          have HES := Lib.hid (eightTo_succ A k q)
          have hw2 : IntKind.i64.wrap (A + 10 * (k : Int) + 2 + (q : Int) + 1) = A + 10 * (k : Int) + 2 + (q : Int) + 1 := by rw [IntKind.wrap_i64]; omega
          go_wp2_with (at_builtin; refine append_one _ rfl (.tmp 31) (.tmp 33) rfl w.heap.size Try.underlying24 info64 _ _ rfl (HO.out.below ((Below.refl _ _).alloc (Nat.le_refl _) _)) _ _ _ rfl (new_cell rfl) hlen (by simp; omega) ?_; intro v2 w3 o4 b4)
          rw [List.append_assoc, ← HES.out] at o4
          have HO2 := Lib.hid o4; have HB2 := Lib.hid ((HB.out.alloc (by omega) _).trans b4)
          clear o4 b4
          go_roundw
          case rel => exact ⟨q + 1, by omega, by go_num, by push_cast; rw [Int.add_assoc], HO2, HB2⟩
          case measure => simp [intOf]; omega
        · have hq9 : q = 8 := by omega
          subst hq9
          have HO2 : Hid (Own 2 _ w.heap.size _ (placesTo A (k + 1))) := Lib.hid (by rw [HPS.out]; exact HO.out)
          clear HO
          go_wp2
          go_roundw
          case rel => exact ⟨k + 1, by omega, by go_num, by first | (push_cast; omega) | (simp; omega), HO2, HB⟩
          case measure => simp [intOf]; omega
    · have hkn : k = d.length := by omega
      subst hkn
      go_wp2
      go_ret2
      exact ⟨_, rfl, HO.out, HB.out⟩
end Go.Proofs.Ytilkopbfbmibgaa
