/-
  Chapter 6: slices.Equal, and what the program reads of a list: stateOfBytes, readBody.
-/
import Derived.Test.YtnblbemkpojjdaaGA
namespace Go.Proofs.Ytnblbemkpojjdaa
open Go.RowKit

/-- slices.Equal: whether two slices read as the same list. -/
theorem equal_any (ao bo : Option Addr) (n m c d : Nat) (xs ys : List Int) (w : World) (hx : Rd w ao n xs) (hy : Rd w bo m ys) (hn : n ≤ 9223372036854775807) (hm : m ≤ 9223372036854775807) :
    Calls Try.prog 54 #[.slice ao n c, .slice bo m d] w fun e w' => e = .returned (.bool (decide (xs = ys))) ∧ ∃ q, w' = w.drewN q := by
  obtain ⟨hxl, hxa⟩ := hx
  obtain ⟨hyl, hya⟩ := hy
  by_cases hnm : n = m
  · subst hnm
    have XL := Lib.hid hxl; clear hxl
    have XA := Lib.hid hxa; clear hxa
    have YL := Lib.hid hyl; clear hyl
    have YA := Lib.hid hya; clear hya
    have hne : ((n : Int) != (n : Int)) = false := by simp
    go_enter Try.func54, Try.ntmps54
    go_wp2
    clear hne
    go_loopw [13] (fun i wr => ∃ k : Nat, k ≤ n ∧ i = .int .i64 k ∧ Hid (xs.take k = ys.take k) ∧ ∃ q, wr = w.drewN q) (fun i _ => n - (intOf i).toNat)
    case atStart => exact ⟨0, Nat.zero_le _, rfl, rfl, 0, rfl⟩
    case round =>
      obtain ⟨k, hk, rfl, heq, q, rfl⟩ := hrel
      by_cases hlt : k < n
      · obtain ⟨b, off, rfl, hc⟩ := XA.out (by omega)
        obtain ⟨b', off', rfl, hc'⟩ := YA.out (by omega)
        have hck : w.cell? ⟨b, off + k, none⟩ = some (.int .i64 (xs.getD k 0)) := hc k hlt
        have hck' : w.cell? ⟨b', off' + k, none⟩ = some (.int .i64 (ys.getD k 0)) := hc' k hlt
        clear hc hc' XA YA
        obtain ⟨x, hx⟩ : ∃ x, x = xs.getD k 0 := ⟨_, rfl⟩
        obtain ⟨y, hy⟩ : ∃ y, y = ys.getD k 0 := ⟨_, rfl⟩
        rw [← hx] at hck
        rw [← hy] at hck'
        have HX := Lib.hid hx; clear hx
        have HY := Lib.hid hy; clear hy
        by_cases hxy : x = y
        · have hd : (x != y) = false := by simp [hxy]
          have HXY := Lib.hid hxy; clear hxy
          go_wp2
          go_quiet (fail)
          go_wp2
          go_roundw
          case rel => exact ⟨k + 1, by omega, by go_num, take_eq_succ (by rw [XL.out]; exact hlt) (by rw [YL.out]; exact hlt) heq.out (by rw [← HX.out, ← HY.out]; exact HXY.out), _, rfl⟩
          case measure => simp [intOf]; omega
        · have hd : (x != y) = true := by simp [hxy]
          have HXY := Lib.hid hxy; clear hxy
          go_wp2
          go_quiet (fail)
          go_wp2
          go_ret
          exact ⟨ret_bool (ne_of_getD (k := k) (by rw [← HX.out, ← HY.out]; exact HXY.out)).symm, _, World.drewN_drewN _ _ _⟩
      · have hkn : k = n := by omega
        subst hkn
        go_wp2
        go_ret
        exact ⟨ret_bool (decide_eq_true (list_eq_of_take XL.out YL.out heq.out)).symm, _, rfl⟩
  · have hne : ((n : Int) != (m : Int)) = true := by simp; omega
    have hf : decide (xs = ys) = false := ne_of_len (by rw [hxl, hyl]; exact hnm)
    rw [hf]
    clear hxl hyl hxa hya hf hnm
    go_enter Try.func54, Try.ntmps54
    go_wp2
    go_ret
    exact ⟨rfl, 0, rfl⟩
/-- A frame handed back with a flag, its data a slice of the call's own; all old memory as it was. -/
def GivesFB (w : World) (f : Fr) (c : Value) (e : Ending) (w' : World) : Prop :=
  ∃ ao cap, e = .returned (.tuple #[.agg #[.int .i64 f.kind, .int .i64 f.req, .int .i64 f.t, .int .i64 f.m, .int .i64 f.r, .int .i64 f.s, .int .i64 f.k, .slice ao f.data.length cap], c]) ∧ Own 2 w' w.heap.size (.slice ao f.data.length cap) f.data ∧ Below w.heap.size w w'
/-- What a reader hands back: a frame and true, or the zero value and false. -/
def GivesOpt (w : World) (x : Option Fr) (e : Ending) (w' : World) : Prop := match x with
  | none => GivesFB w Fr.zero (.bool false) e w'
  | some f => GivesFB w f (.bool true) e w'
theorem bytes_part {xs : List Int} (h : ∀ x ∈ xs, 0 ≤ x ∧ x ≤ 255) (hl : xs.length ≤ 1024) : isBytes xs = true := isBytes_iff.2 ⟨hl, h⟩
theorem flat_bits8 (xs : List Int) : ∀ x ∈ bitsOf8 xs, 0 ≤ x ∧ x ≤ 1 := by
  intro x hx
  obtain ⟨y, -, hy⟩ := List.mem_flatMap.1 hx
  exact bitsOf_bits _ _ x hy
theorem bits8_len (xs : List Int) : (bitsOf8 xs).length = 8 * xs.length := flat_len xs
theorem stateOfBytes_any (ao : Option Addr) (cap : Nat) (xs : List Int) (w : World) (hr : Rd w ao 8 xs) (hb : ∀ x ∈ xs, 0 ≤ x ∧ x ≤ 255) :
    Calls Try.prog 75 #[.slice ao 8 cap] w (GivesState w (numIn (bitsOf8 xs) 0 16) (numIn (bitsOf8 xs) 16 4) (numIn (bitsOf8 xs) 20 4) (numIn (bitsOf8 xs) 24 8) (numIn (bitsOf8 xs) 32 32)) := by
  have hl : xs.length = 8 := hr.len
  have hz := bb_0 (bytes_part hb (by omega))
  change bytesToBits xs = (bitsOf8 xs, 0) at hz
  have hs := sf_0 (bits_list (flat_bits8 xs) (by rw [bits8_len]; omega)) (by rw [bits8_len]; omega)
  have hbl := bits8_len xs
  generalize bitsOf8 xs = bs at hz hs hbl ⊢
  generalize numIn bs 0 16 = y0 at hs ⊢
  generalize numIn bs 16 4 = y1 at hs ⊢
  generalize numIn bs 20 4 = y2 at hs ⊢
  generalize numIn bs 24 8 = y3 at hs ⊢
  generalize numIn bs 32 32 = y4 at hs ⊢
  have hB0 : Below w.heap.size w (w.alloc (.cells #[.int .i64 0, .int .i64 0, .int .i64 0, .int .i64 0, .int .i64 0] 25)) := (Below.refl _ _).alloc (Nat.le_refl _) _
  have hcall := bytesToBits_any ao cap xs _ (by rw [hl]; exact hr.below hB0) (by omega)
  rw [hz, hl] at hcall
  simp only at hcall
  have HCALL := Lib.hid hcall
  have HS := Lib.hid hs; have HBL := Lib.hid (show bs.length = 64 from by omega)
  clear hr hb hz hs hbl hB0 hl hcall
  go_enter Try.func75, Try.ntmps75
  go_wp2_with fail
  refine HCALL.out.mono ?_
  rintro e w1 m1
  change Makes2 2 _ bs 0 _ _ at m1
  obtain ⟨p1, c1, rfl, o1, r1, b1⟩ := m1.get
  have Z1 := Lib.hid (state_new b1)
  have B1 := Lib.hid (below_box b1)
  have HC := Own.cap o1
  clear m1 b1 o1
  go_wp2_with fail
  refine (stateFromBits_any _ _ _ _ r1 (by rw [HBL.out]; omega) HC.1 HC.2).mono ?_
  rintro e w2 ⟨rfl, b2⟩
  rw [HS.out]
  simp only
  have Z2 := Lib.hid (Z1.out.below b2 Z1.out.lt)
  have B2 := Lib.hid (below_two B1.out b2)
  clear b2 Z1 B1
  go_upto_region 3 with fail
  have hal : Below w2.heap.size w2 (w2.alloc (.cells #[.int .i64 y0, .int .i64 y1, .int .i64 y2, .int .i64 y3, .int .i64 y4] 25)) := (Below.refl _ _).alloc (Nat.le_refl _) _
  have N3 := Lib.hid (StateAt.new (T := 25) (t := y0) (m := y1) (r := y2) (s := y3) (k := y4) w2)
  have Z3 := Lib.hid (Z2.out.below hal Z2.out.lt)
  have B3 := Lib.hid (below_two B2.out hal)
  obtain ⟨J, hJ⟩ : ∃ b, b = w2.heap.size := ⟨_, rfl⟩
  have hjl : w.heap.size < J := by have := Z2.out.lt; omega
  rw [← hJ] at N3 ⊢
  clear hal Z2 B2 hJ
  generalize w2.alloc (.cells #[.int .i64 y0, .int .i64 y1, .int .i64 y2, .int .i64 y3, .int .i64 y4] 25) = w3 at N3 Z3 B3 ⊢
  have c0 := N3.out.c0
  have c1 := N3.out.c1
  have c2 := N3.out.c2
  have c3 := N3.out.c3
  have c4 := N3.out.c4
  have d0 := Z3.out.c0
  have d1 := Z3.out.c1
  have d2 := Z3.out.c2
  have d3 := Z3.out.c3
  have d4 := Z3.out.c4
  have f0 := Z3.out.f 0
  have f1 := Z3.out.f 1
  have f2 := Z3.out.f 2
  have f3 := Z3.out.f 3
  have f4 := Z3.out.f 4
  go_wp2_with fail
  clear c0 c1 c2 c3 c4 d0 d1 d2 d3 d4 f0 f1 f2 f3 f4
  change bodyPost _ _ _ _ _ (setFive w3 w.heap.size y0 y1 y2 y3 y4)
  have SF := StateAt.five Z3.out y0 y1 y2 y3 y4
  have BF := below_two' B3.out (below_five (B := w.heap.size) (w := w3) (b := w.heap.size) (by omega) y0 y1 y2 y3 y4)
  generalize setFive w3 w.heap.size y0 y1 y2 y3 y4 = wz at SF BF ⊢
  have e0 := SF.c0
  have e1 := SF.c1
  have e2 := SF.c2
  have e3 := SF.c3
  have e4 := SF.c4
  exact bodyPost_ret (v := .agg #[.int .i64 y0, .int .i64 y1, .int .i64 y2, .int .i64 y3, .int .i64 y4]) (by simp [results, Try.results75, go_sem, e0, e1, e2, e3, e4]) rfl ⟨rfl, BF⟩
end Go.Proofs.Ytnblbemkpojjdaa
