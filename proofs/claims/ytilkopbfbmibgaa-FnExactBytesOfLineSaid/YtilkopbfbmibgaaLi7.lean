/-
  Chapter 18: the model's l18Line, BytesOfLine, ShapeOfLine, IsLine, DataCells.
-/
import Derived.Test.YtilkopbfbmibgaaLi6
namespace Go.Proofs.Ytilkopbfbmibgaa
open Go.RowKit

/-- The parts of a line and its code, apart. -/
def GivesL4 (E : Nat) (w : World) (q : (Int × Int × List Int) × Int) (e : Ending) (w' : World) : Prop :=
  ∃ v, e = .returned (.tuple #[.int .i64 q.1.1, .int .i64 q.1.2.1, v, .int .i64 q.2]) ∧ Own E w' w.heap.size v q.1.2.2 ∧ Below w.heap.size w w'
theorem l18Line_any (ao : Option Addr) (n cap : Nat) (xs : List Int) (w : World) (hr : Rd w ao n xs) (hn : n ≤ 1048576) :
    Calls Try.prog 57 #[.slice ao n cap] w (GivesL4 2 w (lineOf xs)) := by
  rcases hb : isBits xs with _ | _
  · rw [ln_1 hb]
    have HB := Lib.hid hb; clear hb
    go_enter Try.func57, Try.ntmps57
    go_wp2_with (go_at_call 59; refine (sIsBits_any _ _ _ _ _ hr (by omega)).mono ?_; rintro e w' ⟨rfl, rfl⟩; rw [HB.out])
    exact bodyPost_ret (v := .tuple #[.int .i64 0, .int .i64 0, .slice none 0 0, .int .i64 1]) (by simp [results, Try.results57, go_sem]) rfl ⟨_, rfl, Own.nil_, Below.refl _ _⟩
  · have hbits := (isBits_iff.1 hb).2
    have HP := Lib.hid (l18Parse_any ao n cap xs w hr hn hbits)
    rw [line_parsed hb]
    have hnil : parsed xs = parsed xs := rfl
    obtain ⟨⟨i, p, d, c⟩, hq⟩ : ∃ q, parsed xs = q := ⟨_, rfl⟩
    have hz : c = false → (i = 0 ∧ p = 0 ∧ d = []) := by
      intro hc
      unfold parsed at hq
      split at hq
      · cases hq; exact ⟨rfl, rfl, rfl⟩
      · cases hq; cases hc
    rw [hq] at HP ⊢
    have HB := Lib.hid hb; clear hb hbits hq hnil
    rcases c with _ | _
    · obtain ⟨rfl, rfl, rfl⟩ := hz rfl
      clear hz
      go_enter Try.func57, Try.ntmps57
      go_wp2_with (first
        | (go_at_call 59; refine (sIsBits_any _ _ _ _ _ hr (by omega)).mono ?_; rintro e w' ⟨rfl, rfl⟩; rw [HB.out])
        | (go_at_call 73; refine HP.out.mono ?_; rintro e w1 ⟨v, rfl, o1, b1⟩; obtain ⟨av, cv, rfl, o2, -⟩ := o1.get; clear o1))
      exact bodyPost_ret (v := .tuple #[.int .i64 0, .int .i64 0, .slice none 0 0, .int .i64 6]) (by simp [results, Try.results57, go_sem]) rfl ⟨_, rfl, Own.nil_, b1⟩
    · clear hz
      go_enter Try.func57, Try.ntmps57
      go_wp2_with (first
        | (go_at_call 59; refine (sIsBits_any _ _ _ _ _ hr (by omega)).mono ?_; rintro e w' ⟨rfl, rfl⟩; rw [HB.out])
        | (go_at_call 73; refine HP.out.mono ?_; rintro e w1 ⟨v, rfl, o1, b1⟩; obtain ⟨av, cv, rfl, o2, -⟩ := o1.get; clear o1))
      exact bodyPost_ret (v := .tuple #[.int .i64 i, .int .i64 p, .slice av d.length cv, .int .i64 0]) (by simp [results, Try.results57, go_sem]) rfl ⟨_, rfl, o2, b1⟩

theorem sBytesOfLine_any (ao : Option Addr) (cap : Nat) (xs : List Int) (w : World) (hr : Rd w ao xs.length xs) (hn : xs.length ≤ 1048576) :
    Calls Try.prog 26 #[.slice ao xs.length cap] w (Makes2 2 w (bytesOfLine xs).1 (bytesOfLine xs).2) := by
  have HLN := Lib.hid (l18Line_any ao xs.length cap xs w hr hn)
  obtain ⟨⟨⟨i, p, d⟩, c⟩, hq⟩ : ∃ q, lineOf xs = q := ⟨_, rfl⟩
  unfold bytesOfLine
  rw [hq] at HLN ⊢
  clear hq hr
  simp only
  go_enter Try.func26, Try.ntmps26
  go_wp2_with (go_at_call 57; refine HLN.out.mono ?_; rintro e w1 ⟨v, rfl, o1, b1⟩; obtain ⟨a, cc, rfl, o2, -⟩ := o1.get; clear o1)
  go_ret2
  exact ⟨_, rfl, o2, b1⟩
theorem sShapeOfLine_any (ao : Option Addr) (cap : Nat) (xs : List Int) (w : World) (hr : Rd w ao xs.length xs) (hn : xs.length ≤ 1048576) :
    Calls Try.prog 27 #[.slice ao xs.length cap] w fun e w' => e = .returned (.tuple #[.int .i64 (shapeOfLine xs).1, .int .i64 (shapeOfLine xs).2.1, .int .i64 (shapeOfLine xs).2.2.1, .int .i64 (shapeOfLine xs).2.2.2]) ∧ Below w.heap.size w w' := by
  have HLN := Lib.hid (l18Line_any ao xs.length cap xs w hr hn)
  obtain ⟨⟨⟨i, p, d⟩, c⟩, hq⟩ : ∃ q, lineOf xs = q := ⟨_, rfl⟩
  unfold shapeOfLine
  rw [hq] at HLN ⊢
  clear hq hr
  simp only
  go_enter Try.func27, Try.ntmps27
  go_wp2_with (go_at_call 57; refine HLN.out.mono ?_; rintro e w1 ⟨v, rfl, o1, b1⟩; obtain ⟨a, cc, rfl, o2, -⟩ := o1.get; clear o1)
  exact bodyPost_ret (v := .tuple #[.int .i64 i, .int .i64 p, .int .i64 (d.length : Int), .int .i64 c]) (by simp [results, Try.results27, go_sem]) rfl ⟨rfl, b1⟩
theorem sIsLine_any (ao : Option Addr) (cap : Nat) (xs : List Int) (w : World) (hr : Rd w ao xs.length xs) (hn : xs.length ≤ 1048576) :
    Calls Try.prog 39 #[.slice ao xs.length cap] w fun e w' => e = .returned (.bool (isLine xs)) ∧ Below w.heap.size w w' := by
  have HLN := Lib.hid (l18Line_any ao xs.length cap xs w hr hn)
  obtain ⟨⟨⟨i, p, d⟩, c⟩, hq⟩ : ∃ q, lineOf xs = q := ⟨_, rfl⟩
  unfold isLine
  rw [hq] at HLN ⊢
  clear hq hr
  simp only
  go_enter Try.func39, Try.ntmps39
  go_wp2_with (go_at_call 57; refine HLN.out.mono ?_; rintro e w1 ⟨v, rfl, o1, b1⟩; obtain ⟨a, cc, rfl, o2, -⟩ := o1.get; clear o1)
  go_ret
  exact ⟨rfl, b1⟩
set_option maxHeartbeats 800000 in
theorem sDataCells_any (ao : Option Addr) (cap : Nat) (xs : List Int) (w : World) (hr : Rd w ao xs.length xs) (hn : xs.length ≤ 1048576) :
    Calls Try.prog 40 #[.slice ao xs.length cap] w (Makes2 2 w (dataCells xs).1 (dataCells xs).2) := by
  have HLL := lineOf_len xs
  have HLN := Lib.hid (l18Line_any ao xs.length cap xs w hr hn)
  obtain ⟨⟨⟨i, p, d⟩, c⟩, hq⟩ : ∃ q, lineOf xs = q := ⟨_, rfl⟩
  have hq' := hq
  rw [hq] at HLN HLL
  clear hr
  simp only at HLL
  by_cases h0 : c = 0
  rotate_left
  · rw [dc_no (by rw [hq]) h0]
    have hd : (c != 0) = true := by simp [h0]
    clear hq hq' h0
    go_enter Try.func40, Try.ntmps40
    go_wp2_with (go_at_call 57; refine HLN.out.mono ?_; rintro e w1 ⟨v, rfl, o1, b1⟩; obtain ⟨a, cc, rfl, o2, -⟩ := o1.get; clear o1)
    go_ret2
    exact ⟨_, rfl, Own.nil_, b1⟩
  subst h0
  obtain ⟨i0, i1, p0, p1⟩ := lineOf_small hq
  obtain ⟨A, hA⟩ : ∃ A, i + p + 1 = A := ⟨_, rfl⟩
  rw [dc_yes hq, hA]
  clear hq hq'
  have hd : ((0 : Int) != 0) = false := rfl
  go_enter Try.func40, Try.ntmps40
  go_upto_region 6 with (go_at_call 57; refine HLN.out.mono ?_; rintro e w1 ⟨v, rfl, o1, b1⟩; obtain ⟨a, cc, rfl, o2, -⟩ := o1.get; clear o1)
  have hs1 := b1.size
  clear o2 hd
  go_loopw [8, 9] (fun v k wr => ∃ j : Nat, j ≤ d.length ∧ k = .int .i64 j ∧ Hid (Own 2 wr w.heap.size v (placesTo A j)) ∧ Hid (Below w.heap.size w wr)) (fun _ k _ => d.length - (intOf k).toNat)
  case atStart => exact ⟨0, Nat.zero_le _, rfl, Lib.hid (Own.of_alloc_nil hs1), Lib.hid (b1.alloc hs1 _)⟩
  case round =>
    clear b1
    obtain ⟨k, hk, rfl, HO, HB⟩ := hrel
    by_cases hlt : k < d.length
    · have HPS := Lib.hid (placesTo_succ A k)
      go_upto_region 9 with fail
      go_loopw [8, 10] (fun v j wr => ∃ q : Nat, q ≤ 8 ∧ j = .int .i64 q ∧ Hid (Own 2 wr w.heap.size v (placesTo A k ++ eightTo A k q)) ∧ Hid (Below w.heap.size w wr)) (fun _ j _ => 8 - (intOf j).toNat)
      case atStart => exact ⟨0, by omega, rfl, Lib.hid (by simpa [eightTo] using HO.out), HB⟩
      case round =>
        clear HO HB
        obtain ⟨q, hq8, rfl, HO, HB⟩ := hrel
        by_cases hq : q < 8
        · have hlen : (placesTo A k ++ eightTo A k q).length ≤ 4294967296 := by rw [List.length_append, placesTo_size, eightTo_len]; omega
          have hbs := HB.out.size
          have HES := Lib.hid (eightTo_succ A k q)
          have hw1 : IntKind.i64.wrap (i + p) = i + p := by rw [IntKind.wrap_i64]; omega
          have hw2 : IntKind.i64.wrap (i + p + 1) = A := by rw [IntKind.wrap_i64]; omega
          have hw3 : IntKind.i64.wrap (A + 10 * (k : Int)) = A + 10 * (k : Int) := by rw [IntKind.wrap_i64]; omega
          have hw4 : IntKind.i64.wrap (A + 10 * (k : Int) + 2) = A + 10 * (k : Int) + 2 := by rw [IntKind.wrap_i64]; omega
          have hw5 : IntKind.i64.wrap (A + 10 * (k : Int) + 2 + (q : Int)) = A + 10 * (k : Int) + 2 + (q : Int) := by rw [IntKind.wrap_i64]; omega
          go_wp2_with (at_builtin; refine append_one _ rfl (.tmp 32) (.tmp 43) rfl w.heap.size Try.underlying24 info64 _ _ rfl (HO.out.below ((Below.refl _ _).alloc (Nat.le_refl _) _)) _ _ _ rfl (new_cell rfl) hlen (by simp; omega) ?_; intro v2 w3 o4 b4)
          rw [List.append_assoc, ← HES.out] at o4
          have HO2 := Lib.hid o4; have HB2 := Lib.hid ((HB.out.alloc (by omega) _).trans b4)
          clear o4 b4
          go_roundw
          case rel => exact ⟨q + 1, by omega, by go_num, HO2, HB2⟩
          case measure => simp [intOf]; omega
        · have hq9 : q = 8 := by omega
          subst hq9
          have HO2 : Hid (Own 2 _ w.heap.size _ (placesTo A (k + 1))) := Lib.hid (by rw [HPS.out]; exact HO.out)
          clear HO
          go_wp2
          go_roundw
          case rel => exact ⟨k + 1, by omega, by go_num, HO2, HB⟩
          case measure => simp [intOf]; omega
    · have hkn : k = d.length := by omega
      subst hkn
      go_wp2
      go_ret2
      exact ⟨_, rfl, HO.out, HB.out⟩
theorem bytesOfLine_len (xs : List Int) : (bytesOfLine xs).1.length ≤ 1024 := lineOf_len xs
theorem dataCells_len (xs : List Int) : (dataCells xs).1.length ≤ 8192 := by
  unfold dataCells
  split
  · have := lineOf_len xs
    show (placesTo _ _).length ≤ _
    rw [placesTo_size]; omega
  · simp
end Go.Proofs.Ytilkopbfbmibgaa
