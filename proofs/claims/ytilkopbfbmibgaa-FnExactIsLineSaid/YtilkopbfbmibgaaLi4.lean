/-
  Chapter 18: what stands in a line: the program's lineOf.
-/
import Derived.Test.YtilkopbfbmibgaaLi3
import Derived.Test.YtilkopbfbmibgaaCtn
import Derived.Deep.Cut
import Derived.Deep.DeepCutAuto
namespace Go.Proofs.Ytilkopbfbmibgaa
open Go.RowKit

/-! ### the plain answer, way by way -/
theorem runL_full_iff : ∀ {l : List Int}, (∀ x ∈ l, 0 ≤ x ∧ x ≤ 1) → (runL 1 l = l.length ↔ (0 : Int) ∉ l)
  | [], _ => by simp [runL]
  | x :: r, h => by
    have ih := runL_full_iff (l := r) fun y hy => h y (by simp [hy])
    have hx := h x (by simp)
    rw [runL]
    by_cases e : x = 1
    · subst e
      rw [if_pos rfl, List.length_cons, List.mem_cons]
      constructor
      · intro h1 h2
        rcases h2 with h2 | h2
        · cases h2
        · exact ih.1 (by omega) h2
      · intro h1
        have := ih.2 fun h2 => h1 (.inr h2)
        omega
    · rw [if_neg e, List.length_cons]
      constructor
      · intro h1; omega
      · intro h1; exact absurd (List.mem_cons.2 (.inl (by omega))) h1
theorem end_iff {r : List Int} (h : ∀ x ∈ r, 0 ≤ x ∧ x ≤ 1) : (2 ≤ r.length ∧ r.getD 0 1 = 0 ∧ runL 1 (r.drop 1) = r.length - 1) ↔ (begins r 0 1 = true ∧ (0 : Int) ∉ r.drop 2) := by
  rw [begins_iff]
  rcases r with _ | ⟨a, _ | ⟨b, r⟩⟩
  · simp
  · simp
  · have hf := runL_full_iff (l := r) fun y hy => h y (by simp [hy])
    simp only [List.length_cons, List.getD_cons_zero, List.getD_cons_succ, List.drop_succ_cons, List.drop_zero, runL]
    by_cases e : b = 1
    · rw [if_pos e]
      constructor
      · rintro ⟨h1, h2, h3⟩; exact ⟨⟨h1, h2, e⟩, hf.1 (by omega)⟩
      · rintro ⟨⟨h1, h2, -⟩, h3⟩; exact ⟨h1, h2, by have := hf.2 h3; omega⟩
    · rw [if_neg e]
      constructor
      · rintro ⟨h1, h2, h3⟩; omega
      · rintro ⟨⟨-, -, h3⟩, -⟩; exact absurd h3 e
section
variable {xs d r : List Int} {i p : Nat}
theorem ln_1 (h : isBits xs = false) : lineOf xs = ((0, 0, []), 1) := by unfold lineOf; rw [if_pos h]
theorem ln_6a (hb : isBits xs = true) (hi : runL 1 xs = i) (hp : runL 0 (xs.drop i) = p) (h : isPre (p : Int) = false) : lineOf xs = ((0, 0, []), 6) := by
  unfold lineOf parseL; rw [if_neg (by rw [hb]; simp), if_neg (by subst hi; subst hp; rw [h]; simp)]
theorem ln_6b (hb : isBits xs = true) (hi : runL 1 xs = i) (hp : runL 0 (xs.drop i) = p) (h : ¬ i + p < xs.length) : lineOf xs = ((0, 0, []), 6) := by
  unfold lineOf parseL; rw [if_neg (by rw [hb]; simp), if_neg (by subst hi; subst hp; exact fun h2 => h h2.2.1)]
theorem ln_6c (hb : isBits xs = true) (hi : runL 1 xs = i) (hp : runL 0 (xs.drop i) = p) (ht : takeBytes (xs.drop (i + p + 1)) = (d, r)) (h : ¬ (begins r 0 1 = true ∧ (0 : Int) ∉ r.drop 2)) (hr : ∀ x ∈ r, 0 ≤ x ∧ x ≤ 1) : lineOf xs = ((0, 0, []), 6) := by
  unfold lineOf parseL; rw [if_neg (by rw [hb]; simp), if_neg (by subst hi; subst hp; rw [ht]; exact fun h2 => h ((end_iff hr).1 h2.2.2))]
theorem ln_0 (hb : isBits xs = true) (hi : runL 1 xs = i) (hp : runL 0 (xs.drop i) = p) (h1 : isPre (p : Int) = true) (h2 : i + p < xs.length) (ht : takeBytes (xs.drop (i + p + 1)) = (d, r)) (h : begins r 0 1 = true ∧ (0 : Int) ∉ r.drop 2) (hr : ∀ x ∈ r, 0 ≤ x ∧ x ≤ 1) : lineOf xs = (((i : Int), (p : Int), d), 0) := by
  unfold lineOf parseL; rw [if_neg (by rw [hb]; simp), if_pos (by subst hi; subst hp; rw [ht]; exact ⟨h1, h2, (end_iff hr).2 h⟩)]
  subst hi; subst hp; rw [ht]
theorem takeBytes_rest (h : ∀ x ∈ xs, 0 ≤ x ∧ x ≤ 1) (ht : takeBytes xs = (d, r)) : (∀ x ∈ r, 0 ≤ x ∧ x ≤ 1) ∧ d.length ≤ xs.length ∧ r.length ≤ xs.length ∧ ∀ x ∈ d, 0 ≤ x ∧ x ≤ 255 := by
  obtain ⟨e, hd⟩ := takeBytes_back _ xs (Nat.le_refl _) h
  rw [ht] at e hd
  have hl := congrArg List.length e
  rw [List.length_append, flatCells_len] at hl
  exact ⟨fun x hx => h x (by rw [e]; exact List.mem_append_right _ hx), by simp at hl; omega, by simp at hl; omega, hd⟩
end
/-! ### its struct in memory -/
def LnAt (T : Nat) (w : World) (b : Nat) (x y : Int) (v : Value) : Prop := w.heap[b]? = some (.cells #[.int .i64 x, .int .i64 y, v] T (0, 0))
def setLn (w : World) (b : Nat) (x y : Int) (v : Value) : World := ((w.setCell ⟨b, 0, none⟩ (.int .i64 x)).setCell ⟨b, 1, none⟩ (.int .i64 y)).setCell ⟨b, 2, none⟩ v
section
variable {T b c i : Nat} {w w' : World} {x y : Int} {v u : Value}
theorem LnAt.c0 (h : LnAt T w b x y v) : w.cell? ⟨b, 0, none⟩ = some (.int .i64 x) := cell_of_row w b 0 _ _ (0, 0) h
theorem LnAt.c1 (h : LnAt T w b x y v) : w.cell? ⟨b, 1, none⟩ = some (.int .i64 y) := cell_of_row w b 1 _ _ (0, 0) h
theorem LnAt.c2 (h : LnAt T w b x y v) : w.cell? ⟨b, 2, none⟩ = some v := cell_of_row w b 2 _ _ (0, 0) h
theorem LnAt.f (h : LnAt T w b x y v) (i : Nat) : w.frozen? ⟨b, i, none⟩ = false := frozen_of_row w b i _ _ h
theorem LnAt.lt (h : LnAt T w b x y v) : b < w.heap.size := (Array.getElem?_eq_some_iff.1 h).1
theorem LnAt.below {B : Nat} (h : LnAt T w b x y v) (hb : Below B w w') (hlt : b < B) : LnAt T w' b x y v := (hb.block b hlt).trans h
theorem LnAt.new (w : World) : LnAt T (w.alloc (.cells #[.int .i64 x, .int .i64 y, v] T)) w.heap.size x y v := heap_alloc_new w _
theorem LnAt.other (h : LnAt T w b x y v) {q i : Nat} {u : Value} (hne : b ≠ q) : LnAt T (w.setCell ⟨q, i, none⟩ u) b x y v := (heap_setCell_other _ _ _ _ hne).trans h
theorem LnAt.set0 (h : LnAt T w b x y v) (z : Int) : LnAt T (w.setCell ⟨b, 0, none⟩ (.int .i64 z)) b z y v := by
  have := heap_setCell_same w b 0 _ _ (.int .i64 z) h
  simpa [LnAt] using this
theorem LnAt.set1 (h : LnAt T w b x y v) (z : Int) : LnAt T (w.setCell ⟨b, 1, none⟩ (.int .i64 z)) b x z v := by
  have := heap_setCell_same w b 1 _ _ (.int .i64 z) h
  simpa [LnAt] using this
theorem LnAt.set2 (h : LnAt T w b x y v) (u : Value) : LnAt T (w.setCell ⟨b, 2, none⟩ u) b x y u := by
  have := heap_setCell_same w b 2 _ _ u h
  simpa [LnAt] using this
theorem below_setLn {B b : Nat} {w : World} (hb : B ≤ b) (x y : Int) (v : Value) : Below B w (setLn w b x y v) := ((((Below.refl _ _).setCell hb _).setCell hb _).setCell hb _)
theorem LnAt.put (h : LnAt T w b x y v) (x' y' : Int) (u : Value) : LnAt T (setLn w b x' y' u) b x' y' u := ((h.set0 x').set1 y').set2 u
theorem LnAt.putOther (h : LnAt T w b x y v) {q : Nat} (hne : b ≠ q) (x' y' : Int) (u : Value) : LnAt T (setLn w q x' y' u) b x y v := ((h.other hne).other hne).other hne
end
theorem takeRun_b (ao : Option Addr) (n cap : Nat) (xs : List Int) (v : Int) (w : World) (hr : Rd w ao n xs) (hn : n ≤ 1048576) (hcap : n ≤ cap) (hcap2 : cap ≤ 9223372036854775807) :
    Calls Try.prog 68 #[.slice ao n cap, .int .i64 v] w fun e w' => ∃ ao' m cap', e = .returned (.tuple #[.int .i64 ((runL v xs : Nat) : Int), .slice ao' m cap']) ∧ m = n - runL v xs ∧ (∀ W, Rd W ao n xs → Rd W ao' m (xs.drop (runL v xs))) ∧ m ≤ cap' ∧ cap' ≤ 9223372036854775807 ∧ Below w.heap.size w w' :=
  (takeRun_any ao n cap xs v w hr hn hcap hcap2).mono fun _ _ ⟨a, m, c, h1, h2, h3, h4, h5, q, h6⟩ => ⟨a, m, c, h1, h2, h3, h4, h5, by rw [h6]; exact below_drewN' (Below.refl _ _) q⟩
/-- What stands in a line, and its code. -/
def GivesLn (E : Nat) (w : World) (q : (Int × Int × List Int) × Int) (e : Ending) (w' : World) : Prop :=
  ∃ v, e = .returned (.tuple #[.agg #[.int .i64 q.1.1, .int .i64 q.1.2.1, v], .int .i64 q.2]) ∧ Own E w' w.heap.size v q.1.2.2 ∧ Below w.heap.size w w'
theorem grown_setLn (w : World) (b i : Nat) (v : Value) : w.grownBy (w.setCell ⟨b, i, none⟩ v) (some b) :=
  ⟨rfl, rfl, rfl, by simp [World.setCell], fun k _ hne => heap_setCell_other _ _ _ _ (fun e => hne (by rw [e]))⟩
theorem grown_ln (w : World) (b : Nat) (x y : Int) (v : Value) : w.grownBy (setLn w b x y v) (some b) :=
  grown_trans (grown_trans (grown_setLn _ _ _ _) (grown_setLn _ _ _ _)) (grown_setLn _ _ _ _)
theorem rd_at {w W : World} {ao : Option Addr} {n : Nat} {xs : List Int} (h : Rd w ao n xs) (hb : Below w.heap.size w W) : Rd W ao n xs := h.below hb
set_option maxRecDepth 100000 in
set_option maxHeartbeats 1600000 in
theorem lineOf_any (ao : Option Addr) (n cap : Nat) (xs : List Int) (w : World) (hr : Rd w ao n xs) (hn : n ≤ 1048576) (hcap : n ≤ cap) (hcap2 : cap ≤ 9223372036854775807) :
    Calls Try.prog 54 #[.slice ao n cap] w (GivesLn 2 w (lineOf xs)) := by
  have HR := Lib.hid hr
  have HL := Lib.hid hr.len
  have R0 : LnAt 65 (w.alloc (.cells #[.int .i64 0, .int .i64 0, .slice none 0 0] 65)) w.heap.size 0 0 (.slice none 0 0) := LnAt.new w
  have hB : Below w.heap.size w (w.alloc (.cells #[.int .i64 0, .int .i64 0, .slice none 0 0] 65)) := (Below.refl _ _).alloc (Nat.le_refl _) _
  have hs1 : (w.alloc (.cells #[.int .i64 0, .int .i64 0, .slice none 0 0] 65)).heap.size = w.heap.size + 1 := by simp
  clear hr
  rcases hb : isBits xs with _ | _
  · rw [ln_1 hb]
    have HB := Lib.hid hb; clear hb
    go_enter Try.func54, Try.ntmps54
    go_upto_region 2 with (go_at_call 50; refine (isBits_any _ _ _ _ _ (HR.out.below hB) (by omega)).mono ?_; rintro e w' ⟨rfl, rfl⟩; rw [HB.out])
    generalize w.alloc (.cells #[.int .i64 0, .int .i64 0, .slice none 0 0] 65) = w1 at R0 hB hs1 ⊢
    have z0 := R0.f 0
    have y0 := R0.c0
    have z1 := R0.f 1
    have y1 := R0.c1
    have z2 := R0.f 2
    have y2 := R0.c2
    go_wp2_with fail
    clear z0 z1 z2 y0 y1 y2
    change bodyPost _ _ _ _ _ (setLn w1 w.heap.size 0 0 (.slice none 0 0))
    have SF := R0.put 0 0 (.slice none 0 0)
    have BF := hB.trans (below_setLn (B := w.heap.size) (w := w1) (b := w.heap.size) (Nat.le_refl _) 0 0 (.slice none 0 0))
    generalize setLn w1 w.heap.size 0 0 (.slice none 0 0) = wz at SF BF ⊢
    have e0 := SF.c0
    have e1 := SF.c1
    have e2 := SF.c2
    exact bodyPost_ret (v := .tuple #[.agg #[.int .i64 0, .int .i64 0, .slice none 0 0], .int .i64 1]) (by simp [results, Try.results54, go_sem, e0, e1, e2]) rfl ⟨_, rfl, Own.nil_, BF⟩
  have hbits := (isBits_iff.1 hb).2
  obtain ⟨i, hi⟩ : ∃ i, runL 1 xs = i := ⟨_, rfl⟩
  obtain ⟨p, hp⟩ : ∃ p, runL 0 (xs.drop i) = p := ⟨_, rfl⟩
  obtain ⟨d, r, ht⟩ : ∃ d r, takeBytes (xs.drop (i + p + 1)) = (d, r) := ⟨_, _, rfl⟩
  have hin : i ≤ n := by have := runL_le 1 xs; rw [HL.out] at this; omega
  have hpn : i + p ≤ n := by have := runL_le 0 (xs.drop i); rw [List.length_drop, HL.out] at this; omega
  have hbr : ∀ x ∈ xs.drop (i + p + 1), 0 ≤ x ∧ x ≤ 1 := fun x hx => hbits x (List.mem_of_mem_drop hx)
  obtain ⟨hrb, hdn, hrn, -⟩ := takeBytes_rest hbr ht
  rw [List.length_drop, HL.out] at hdn hrn
  have HBR := Lib.hid hbr; have HRB := Lib.hid hrb; clear hbr hrb hbits
  have HBI := Lib.hid hb
  have HI := Lib.hid hi; have HP := Lib.hid hp; have HT := Lib.hid ht
  have HE1 := Lib.hid (show (xs.drop i).drop p = xs.drop (i + p) from List.drop_drop)
  have HE2 := Lib.hid (show (xs.drop (i + p)).drop 1 = xs.drop (i + p + 1) from List.drop_drop)
  have R1 : LnAt 65 ((w.alloc (.cells #[.int .i64 0, .int .i64 0, .slice none 0 0] 65)).alloc (.cells #[.int .i64 0, .int .i64 0, .slice none 0 0] 65)) (w.heap.size + 1) 0 0 (.slice none 0 0) := by have := LnAt.new (T := 65) (x := 0) (y := 0) (v := .slice none 0 0) (w.alloc (.cells #[.int .i64 0, .int .i64 0, .slice none 0 0] 65)); rwa [hs1] at this
  have R0' : LnAt 65 ((w.alloc (.cells #[.int .i64 0, .int .i64 0, .slice none 0 0] 65)).alloc (.cells #[.int .i64 0, .int .i64 0, .slice none 0 0] 65)) w.heap.size 0 0 (.slice none 0 0) := R0.below ((Below.refl _ _).alloc (Nat.le_refl _) _) R0.lt
  have hB' : Below w.heap.size w ((w.alloc (.cells #[.int .i64 0, .int .i64 0, .slice none 0 0] 65)).alloc (.cells #[.int .i64 0, .int .i64 0, .slice none 0 0] 65)) := hB.alloc (by rw [hs1]; omega) _
  clear hb hi hp ht
  rcases hpre : isPre (p : Int) with _ | _
  · have hz := ln_6a HBI.out HI.out HP.out hpre
    rw [hz]; clear hz
    have HPRE := Lib.hid hpre; clear hpre
    go_enter Try.func54, Try.ntmps54
    go_upto_region 5 with (go_at_call 50; refine (isBits_any _ _ _ _ _ (HR.out.below hB) (by omega)).mono ?_; rintro e w' ⟨rfl, rfl⟩; rw [HBI.out])
    generalize (w.alloc (.cells #[.int .i64 0, .int .i64 0, .slice none 0 0] 65)).alloc (.cells #[.int .i64 0, .int .i64 0, .slice none 0 0] 65) = w1 at R0' R1 hB' ⊢
    go_upto_region 6 with (go_at_call 68; refine (takeRun_b ao n cap xs 1 w1 (HR.out.below hB') (by omega) hcap hcap2).mono ?_; rintro e w2 ⟨a1, m1, c1, rfl, hm1, hr1, hc1, hd1, b2⟩; rw [HI.out] at hm1 hr1 ⊢; have HM1 := Lib.hid hm1; clear hm1; have HR1 := Lib.hid hr1; clear hr1; have S0 := R0'.below b2 R0'.lt; have S1 := R1.below b2 R1.lt; have hB2 := hB'.trans (b2.mono (by have := hB'.size; omega)); have g0 := S1.c0; have g1 := S1.f 0)
    clear g0 g1 b2 R0' R1 hB'
    have Q1 := S1.set0 (i : Int)
    have Q0 : LnAt 65 (w2.setCell ⟨w.heap.size + 1, 0, none⟩ (.int .i64 i)) w.heap.size 0 0 (.slice none 0 0) := S0.other (by omega)
    have hB3 := hB2.setCell (p := ⟨w.heap.size + 1, 0, none⟩) (Nat.le_succ _) (.int .i64 (i : Int))
    generalize w2.setCell ⟨w.heap.size + 1, 0, none⟩ (.int .i64 i) = w3 at Q1 Q0 hB3 ⊢
    clear S0 S1 hB2
    go_upto_region 7 with (go_at_call 68; refine (takeRun_b a1 m1 c1 (xs.drop i) 0 w3 (HR1.out w3 (HR.out.below hB3)) (by have := HM1.out; omega) hc1 hd1).mono ?_; rintro e w4 ⟨a2, m2, c2, rfl, hm2, hr2, hc2, hd2, b4⟩; rw [HP.out] at hm2 hr2 ⊢; have HM2 := Lib.hid hm2; clear hm2; have S0 := Q0.below b4 Q0.lt; have S1 := Q1.below b4 Q1.lt; have hB4 := hB3.trans (b4.mono (by have := hB3.size; omega)); have g0 := S1.c1; have g1 := S1.f 1)
    clear g0 g1 b4 Q0 Q1 hB3
    have hr3 : ∀ W, Rd W ao n xs → Rd W a2 m2 (xs.drop (i + p)) := fun W h => by have := hr2 W (HR1.out W h); rwa [HE1.out] at this
    have HR3 := Lib.hid hr3; clear hr2 hr3 HR1
    have Q1 := S1.set1 (p : Int)
    have Q0 : LnAt 65 (w4.setCell ⟨w.heap.size + 1, 1, none⟩ (.int .i64 p)) w.heap.size 0 0 (.slice none 0 0) := S0.other (by omega)
    have hB5 := hB4.setCell (p := ⟨w.heap.size + 1, 1, none⟩) (Nat.le_succ _) (.int .i64 (p : Int))
    generalize w4.setCell ⟨w.heap.size + 1, 1, none⟩ (.int .i64 p) = w5 at Q1 Q0 hB5 ⊢
    clear S0 S1 hB4
    have hm : m2 + i + p = n := by have h1 := HM1.out; have h2 := HM2.out; omega
    have q1 := Q1.c1
    go_upto_region 8 with (go_at_call 55; refine (isPreamble_any _ _).mono ?_; rintro e w' ⟨rfl, rfl⟩; rw [HPRE.out])
    clear q1
    have z0 := Q0.f 0
    have y0 := Q0.c0
    have z1 := Q0.f 1
    have y1 := Q0.c1
    have z2 := Q0.f 2
    have y2 := Q0.c2
    go_wp2_with fail
    clear z0 z1 z2 y0 y1 y2
    change bodyPost _ _ _ _ _ (setLn w5 w.heap.size 0 0 (.slice none 0 0))
    have SF := Q0.put 0 0 (.slice none 0 0)
    have BF := hB5.trans (below_setLn (B := w.heap.size) (w := w5) (b := w.heap.size) (Nat.le_refl _) 0 0 (.slice none 0 0))
    generalize setLn w5 w.heap.size 0 0 (.slice none 0 0) = wz at SF BF ⊢
    have e0 := SF.c0
    have e1 := SF.c1
    have e2 := SF.c2
    exact bodyPost_ret (v := .tuple #[.agg #[.int .i64 0, .int .i64 0, .slice none 0 0], .int .i64 6]) (by simp [results, Try.results54, go_sem, e0, e1, e2]) rfl ⟨_, rfl, Own.nil_, BF⟩
  by_cases hlt : i + p < n
  rotate_left
  · have hz := ln_6b HBI.out HI.out HP.out (by rw [HL.out]; exact hlt)
    rw [hz]; clear hz
    have HPRE := Lib.hid hpre; clear hpre
    go_enter Try.func54, Try.ntmps54
    go_upto_region 5 with (go_at_call 50; refine (isBits_any _ _ _ _ _ (HR.out.below hB) (by omega)).mono ?_; rintro e w' ⟨rfl, rfl⟩; rw [HBI.out])
    generalize (w.alloc (.cells #[.int .i64 0, .int .i64 0, .slice none 0 0] 65)).alloc (.cells #[.int .i64 0, .int .i64 0, .slice none 0 0] 65) = w1 at R0' R1 hB' ⊢
    go_upto_region 6 with (go_at_call 68; refine (takeRun_b ao n cap xs 1 w1 (HR.out.below hB') (by omega) hcap hcap2).mono ?_; rintro e w2 ⟨a1, m1, c1, rfl, hm1, hr1, hc1, hd1, b2⟩; rw [HI.out] at hm1 hr1 ⊢; have HM1 := Lib.hid hm1; clear hm1; have HR1 := Lib.hid hr1; clear hr1; have S0 := R0'.below b2 R0'.lt; have S1 := R1.below b2 R1.lt; have hB2 := hB'.trans (b2.mono (by have := hB'.size; omega)); have g0 := S1.c0; have g1 := S1.f 0)
    clear g0 g1 b2 R0' R1 hB'
    have Q1 := S1.set0 (i : Int)
    have Q0 : LnAt 65 (w2.setCell ⟨w.heap.size + 1, 0, none⟩ (.int .i64 i)) w.heap.size 0 0 (.slice none 0 0) := S0.other (by omega)
    have hB3 := hB2.setCell (p := ⟨w.heap.size + 1, 0, none⟩) (Nat.le_succ _) (.int .i64 (i : Int))
    generalize w2.setCell ⟨w.heap.size + 1, 0, none⟩ (.int .i64 i) = w3 at Q1 Q0 hB3 ⊢
    clear S0 S1 hB2
    go_upto_region 7 with (go_at_call 68; refine (takeRun_b a1 m1 c1 (xs.drop i) 0 w3 (HR1.out w3 (HR.out.below hB3)) (by have := HM1.out; omega) hc1 hd1).mono ?_; rintro e w4 ⟨a2, m2, c2, rfl, hm2, hr2, hc2, hd2, b4⟩; rw [HP.out] at hm2 hr2 ⊢; have HM2 := Lib.hid hm2; clear hm2; have S0 := Q0.below b4 Q0.lt; have S1 := Q1.below b4 Q1.lt; have hB4 := hB3.trans (b4.mono (by have := hB3.size; omega)); have g0 := S1.c1; have g1 := S1.f 1)
    clear g0 g1 b4 Q0 Q1 hB3
    have hr3 : ∀ W, Rd W ao n xs → Rd W a2 m2 (xs.drop (i + p)) := fun W h => by have := hr2 W (HR1.out W h); rwa [HE1.out] at this
    have HR3 := Lib.hid hr3; clear hr2 hr3 HR1
    have Q1 := S1.set1 (p : Int)
    have Q0 : LnAt 65 (w4.setCell ⟨w.heap.size + 1, 1, none⟩ (.int .i64 p)) w.heap.size 0 0 (.slice none 0 0) := S0.other (by omega)
    have hB5 := hB4.setCell (p := ⟨w.heap.size + 1, 1, none⟩) (Nat.le_succ _) (.int .i64 (p : Int))
    generalize w4.setCell ⟨w.heap.size + 1, 1, none⟩ (.int .i64 p) = w5 at Q1 Q0 hB5 ⊢
    clear S0 S1 hB4
    have hm : m2 + i + p = n := by have h1 := HM1.out; have h2 := HM2.out; omega
    have q1 := Q1.c1
    have h0 : m2 = 0 := by omega
    subst h0
    go_upto_region 8 with (go_at_call 55; refine (isPreamble_any _ _).mono ?_; rintro e w' ⟨rfl, rfl⟩; rw [HPRE.out])
    clear q1
    have z0 := Q0.f 0
    have y0 := Q0.c0
    have z1 := Q0.f 1
    have y1 := Q0.c1
    have z2 := Q0.f 2
    have y2 := Q0.c2
    go_wp2_with fail
    clear z0 z1 z2 y0 y1 y2
    change bodyPost _ _ _ _ _ (setLn w5 w.heap.size 0 0 (.slice none 0 0))
    have SF := Q0.put 0 0 (.slice none 0 0)
    have BF := hB5.trans (below_setLn (B := w.heap.size) (w := w5) (b := w.heap.size) (Nat.le_refl _) 0 0 (.slice none 0 0))
    generalize setLn w5 w.heap.size 0 0 (.slice none 0 0) = wz at SF BF ⊢
    have e0 := SF.c0
    have e1 := SF.c1
    have e2 := SF.c2
    exact bodyPost_ret (v := .tuple #[.agg #[.int .i64 0, .int .i64 0, .slice none 0 0], .int .i64 6]) (by simp [results, Try.results54, go_sem, e0, e1, e2]) rfl ⟨_, rfl, Own.nil_, BF⟩
  rcases hbeg : begins r 0 1 with _ | _
  · have hz := ln_6c HBI.out HI.out HP.out HT.out (by rw [hbeg]; simp) HRB.out
    rw [hz]; clear hz
    have HPRE := Lib.hid hpre; clear hpre
    have HBEG := Lib.hid hbeg; clear hbeg
    go_enter Try.func54, Try.ntmps54
    go_upto_region 5 with (go_at_call 50; refine (isBits_any _ _ _ _ _ (HR.out.below hB) (by omega)).mono ?_; rintro e w' ⟨rfl, rfl⟩; rw [HBI.out])
    generalize (w.alloc (.cells #[.int .i64 0, .int .i64 0, .slice none 0 0] 65)).alloc (.cells #[.int .i64 0, .int .i64 0, .slice none 0 0] 65) = w1 at R0' R1 hB' ⊢
    go_upto_region 6 with (go_at_call 68; refine (takeRun_b ao n cap xs 1 w1 (HR.out.below hB') (by omega) hcap hcap2).mono ?_; rintro e w2 ⟨a1, m1, c1, rfl, hm1, hr1, hc1, hd1, b2⟩; rw [HI.out] at hm1 hr1 ⊢; have HM1 := Lib.hid hm1; clear hm1; have HR1 := Lib.hid hr1; clear hr1; have S0 := R0'.below b2 R0'.lt; have S1 := R1.below b2 R1.lt; have hB2 := hB'.trans (b2.mono (by have := hB'.size; omega)); have g0 := S1.c0; have g1 := S1.f 0)
    clear g0 g1 b2 R0' R1 hB'
    have Q1 := S1.set0 (i : Int)
    have Q0 : LnAt 65 (w2.setCell ⟨w.heap.size + 1, 0, none⟩ (.int .i64 i)) w.heap.size 0 0 (.slice none 0 0) := S0.other (by omega)
    have hB3 := hB2.setCell (p := ⟨w.heap.size + 1, 0, none⟩) (Nat.le_succ _) (.int .i64 (i : Int))
    generalize w2.setCell ⟨w.heap.size + 1, 0, none⟩ (.int .i64 i) = w3 at Q1 Q0 hB3 ⊢
    clear S0 S1 hB2
    go_upto_region 7 with (go_at_call 68; refine (takeRun_b a1 m1 c1 (xs.drop i) 0 w3 (HR1.out w3 (HR.out.below hB3)) (by have := HM1.out; omega) hc1 hd1).mono ?_; rintro e w4 ⟨a2, m2, c2, rfl, hm2, hr2, hc2, hd2, b4⟩; rw [HP.out] at hm2 hr2 ⊢; have HM2 := Lib.hid hm2; clear hm2; have S0 := Q0.below b4 Q0.lt; have S1 := Q1.below b4 Q1.lt; have hB4 := hB3.trans (b4.mono (by have := hB3.size; omega)); have g0 := S1.c1; have g1 := S1.f 1)
    clear g0 g1 b4 Q0 Q1 hB3
    have hr3 : ∀ W, Rd W ao n xs → Rd W a2 m2 (xs.drop (i + p)) := fun W h => by have := hr2 W (HR1.out W h); rwa [HE1.out] at this
    have HR3 := Lib.hid hr3; clear hr2 hr3 HR1
    have Q1 := S1.set1 (p : Int)
    have Q0 : LnAt 65 (w4.setCell ⟨w.heap.size + 1, 1, none⟩ (.int .i64 p)) w.heap.size 0 0 (.slice none 0 0) := S0.other (by omega)
    have hB5 := hB4.setCell (p := ⟨w.heap.size + 1, 1, none⟩) (Nat.le_succ _) (.int .i64 (p : Int))
    generalize w4.setCell ⟨w.heap.size + 1, 1, none⟩ (.int .i64 p) = w5 at Q1 Q0 hB5 ⊢
    clear S0 S1 hB4
    have hm : m2 + i + p = n := by have h1 := HM1.out; have h2 := HM2.out; omega
    have q1 := Q1.c1
    by_cases hc1 : c2 = 1
    · skip
      have HLX := Lib.hid Q1.lt
      go_upto_region 9 with (go_at_call 55; refine (isPreamble_any _ _).mono ?_; rintro e w' ⟨rfl, rfl⟩; rw [HPRE.out])
      clear q1
      obtain ⟨b, off, rfl, -⟩ := (HR3.out w HR.out).here (by omega)
      have HR4' : Hid (∀ W, Rd W ao n xs → Rd W (some ⟨b, off, none⟩) (m2 - 1) (xs.drop (i + p + 1))) := Lib.hid fun W h => by rw [show m2 - 1 = 0 from by omega, List.drop_of_length_le (by rw [HL.out]; omega)]; exact Rd.nil_
      go_upto_region 10 with (go_at_call 69; refine (takeBytes_any _ _ _ _ _ (HR4'.out _ (HR.out.below hB5)) (by omega) (by omega) (by omega) HBR.out).mono ?_; rintro e w6 ⟨v, a4, m4, c4, rfl, ov, hr4, hm4, hc4, hd4, b6⟩; rw [HT.out] at ov hr4; have S0 := Q0.below b6 Q0.lt; have S1 := Q1.below b6 Q1.lt; have hB6 := hB5.trans (b6.mono (by have := hB5.size; omega)); obtain ⟨av, cv, rfl, ov2, -⟩ := ov.get; have g0 := S1.c2; have g1 := S1.f 2)
      clear g0 g1 Q0 Q1
      have ht0 := hr4 w (HR4'.out w HR.out)
      have hlen4 : r.length = m4 := ht0.len; clear ht0
      have HR4 : Hid (∀ W, Rd W ao n xs → Rd W a4 m4 r) := Lib.hid fun W h => hr4 W (HR4'.out W h)
      have Q1 := S1.set2 (.slice av d.length cv)
      have Q0 : LnAt 65 (w6.setCell ⟨w.heap.size + 1, 2, none⟩ (.slice av d.length cv)) w.heap.size 0 0 (.slice none 0 0) := S0.other (by omega)
      have hB7 := hB6.setCell (p := ⟨w.heap.size + 1, 2, none⟩) (Nat.le_succ _) (.slice av d.length cv)
      have hlx := HLX.out
      have O7 : Own 2 (w6.setCell ⟨w.heap.size + 1, 2, none⟩ (.slice av d.length cv)) w5.heap.size (.slice av d.length cv) d := ov2.only (grown_setLn _ _ _ _) (.inr fun hk => by have := (ov2.block _ hk).1; omega)
      generalize w6.setCell ⟨w.heap.size + 1, 2, none⟩ (.slice av d.length cv) = w7 at Q1 Q0 hB7 O7 ⊢
      clear S0 S1 hB6 ov ov2 hr4
      go_upto_region 11 with (go_at_call 70; refine (beginsWith_any _ _ _ r _ 0 1 _ ((HR4.out _ (HR.out.below hB7)).below ((Below.refl _ _).alloc (Nat.le_refl _) _)) (rd_two' _ _ _) (by omega) (by omega) (by omega)).mono ?_; rintro e w8 ⟨rfl, b8⟩; rw [HBEG.out]; have b9 := ((Below.refl w7.heap.size w7).alloc (Nat.le_refl _) _).trans (b8.mono (by simp)))
      have S0 := Q0.below b9 Q0.lt
      have hB9 := hB7.trans (b9.mono hB7.size)
      have z0 := S0.f 0
      have y0 := S0.c0
      have z1 := S0.f 1
      have y1 := S0.c1
      have z2 := S0.f 2
      have y2 := S0.c2
      go_wp2_with fail
      clear z0 z1 z2 y0 y1 y2
      change bodyPost _ _ _ _ _ (setLn w8 w.heap.size 0 0 (.slice none 0 0))
      have SF := S0.put 0 0 (.slice none 0 0)
      have BF := hB9.trans (below_setLn (B := w.heap.size) (w := w8) (b := w.heap.size) (Nat.le_refl _) 0 0 (.slice none 0 0))
      generalize setLn w8 w.heap.size 0 0 (.slice none 0 0) = wz at SF BF ⊢
      have e0 := SF.c0
      have e1 := SF.c1
      have e2 := SF.c2
      exact bodyPost_ret (v := .tuple #[.agg #[.int .i64 0, .int .i64 0, .slice none 0 0], .int .i64 6]) (by simp [results, Try.results54, go_sem, e0, e1, e2]) rfl ⟨_, rfl, Own.nil_, BF⟩
    · skip
      have HLX := Lib.hid Q1.lt
      go_upto_region 9 with (go_at_call 55; refine (isPreamble_any _ _).mono ?_; rintro e w' ⟨rfl, rfl⟩; rw [HPRE.out])
      clear q1
      obtain ⟨b, off, rfl, -⟩ := (HR3.out w HR.out).here (by omega)
      have HR4' : Hid (∀ W, Rd W ao n xs → Rd W (some ⟨b, off + 1, none⟩) (m2 - 1) (xs.drop (i + p + 1))) := Lib.hid fun W h => by have := (rd_cut (k := 1) (HR3.out W h) (by omega)).plus; rwa [HE2.out] at this
      go_upto_region 10 with (go_at_call 69; refine (takeBytes_any _ _ _ _ _ (HR4'.out _ (HR.out.below hB5)) (by omega) (by omega) (by omega) HBR.out).mono ?_; rintro e w6 ⟨v, a4, m4, c4, rfl, ov, hr4, hm4, hc4, hd4, b6⟩; rw [HT.out] at ov hr4; have S0 := Q0.below b6 Q0.lt; have S1 := Q1.below b6 Q1.lt; have hB6 := hB5.trans (b6.mono (by have := hB5.size; omega)); obtain ⟨av, cv, rfl, ov2, -⟩ := ov.get; have g0 := S1.c2; have g1 := S1.f 2)
      clear g0 g1 Q0 Q1
      have ht0 := hr4 w (HR4'.out w HR.out)
      have hlen4 : r.length = m4 := ht0.len; clear ht0
      have HR4 : Hid (∀ W, Rd W ao n xs → Rd W a4 m4 r) := Lib.hid fun W h => hr4 W (HR4'.out W h)
      have Q1 := S1.set2 (.slice av d.length cv)
      have Q0 : LnAt 65 (w6.setCell ⟨w.heap.size + 1, 2, none⟩ (.slice av d.length cv)) w.heap.size 0 0 (.slice none 0 0) := S0.other (by omega)
      have hB7 := hB6.setCell (p := ⟨w.heap.size + 1, 2, none⟩) (Nat.le_succ _) (.slice av d.length cv)
      have hlx := HLX.out
      have O7 : Own 2 (w6.setCell ⟨w.heap.size + 1, 2, none⟩ (.slice av d.length cv)) w5.heap.size (.slice av d.length cv) d := ov2.only (grown_setLn _ _ _ _) (.inr fun hk => by have := (ov2.block _ hk).1; omega)
      generalize w6.setCell ⟨w.heap.size + 1, 2, none⟩ (.slice av d.length cv) = w7 at Q1 Q0 hB7 O7 ⊢
      clear S0 S1 hB6 ov ov2 hr4
      go_upto_region 11 with (go_at_call 70; refine (beginsWith_any _ _ _ r _ 0 1 _ ((HR4.out _ (HR.out.below hB7)).below ((Below.refl _ _).alloc (Nat.le_refl _) _)) (rd_two' _ _ _) (by omega) (by omega) (by omega)).mono ?_; rintro e w8 ⟨rfl, b8⟩; rw [HBEG.out]; have b9 := ((Below.refl w7.heap.size w7).alloc (Nat.le_refl _) _).trans (b8.mono (by simp)))
      have S0 := Q0.below b9 Q0.lt
      have hB9 := hB7.trans (b9.mono hB7.size)
      have z0 := S0.f 0
      have y0 := S0.c0
      have z1 := S0.f 1
      have y1 := S0.c1
      have z2 := S0.f 2
      have y2 := S0.c2
      go_wp2_with fail
      clear z0 z1 z2 y0 y1 y2
      change bodyPost _ _ _ _ _ (setLn w8 w.heap.size 0 0 (.slice none 0 0))
      have SF := S0.put 0 0 (.slice none 0 0)
      have BF := hB9.trans (below_setLn (B := w.heap.size) (w := w8) (b := w.heap.size) (Nat.le_refl _) 0 0 (.slice none 0 0))
      generalize setLn w8 w.heap.size 0 0 (.slice none 0 0) = wz at SF BF ⊢
      have e0 := SF.c0
      have e1 := SF.c1
      have e2 := SF.c2
      exact bodyPost_ret (v := .tuple #[.agg #[.int .i64 0, .int .i64 0, .slice none 0 0], .int .i64 6]) (by simp [results, Try.results54, go_sem, e0, e1, e2]) rfl ⟨_, rfl, Own.nil_, BF⟩
  obtain ⟨hr2l, -, -⟩ := begins_iff.1 hbeg
  have HBEG := Lib.hid hbeg; clear hbeg
  rcases hcon : decide ((0 : Int) ∈ r.drop 2) with _ | _
  · have HCON := Lib.hid hcon
    have hz := ln_0 HBI.out HI.out HP.out hpre (by rw [HL.out]; exact hlt) HT.out ⟨HBEG.out, of_decide_eq_false hcon⟩ HRB.out
    rw [hz]; clear hz hcon
    have HPRE := Lib.hid hpre; clear hpre
    go_enter Try.func54, Try.ntmps54
    go_upto_region 5 with (go_at_call 50; refine (isBits_any _ _ _ _ _ (HR.out.below hB) (by omega)).mono ?_; rintro e w' ⟨rfl, rfl⟩; rw [HBI.out])
    generalize (w.alloc (.cells #[.int .i64 0, .int .i64 0, .slice none 0 0] 65)).alloc (.cells #[.int .i64 0, .int .i64 0, .slice none 0 0] 65) = w1 at R0' R1 hB' ⊢
    go_upto_region 6 with (go_at_call 68; refine (takeRun_b ao n cap xs 1 w1 (HR.out.below hB') (by omega) hcap hcap2).mono ?_; rintro e w2 ⟨a1, m1, c1, rfl, hm1, hr1, hc1, hd1, b2⟩; rw [HI.out] at hm1 hr1 ⊢; have HM1 := Lib.hid hm1; clear hm1; have HR1 := Lib.hid hr1; clear hr1; have S0 := R0'.below b2 R0'.lt; have S1 := R1.below b2 R1.lt; have hB2 := hB'.trans (b2.mono (by have := hB'.size; omega)); have g0 := S1.c0; have g1 := S1.f 0)
    clear g0 g1 b2 R0' R1 hB'
    have Q1 := S1.set0 (i : Int)
    have Q0 : LnAt 65 (w2.setCell ⟨w.heap.size + 1, 0, none⟩ (.int .i64 i)) w.heap.size 0 0 (.slice none 0 0) := S0.other (by omega)
    have hB3 := hB2.setCell (p := ⟨w.heap.size + 1, 0, none⟩) (Nat.le_succ _) (.int .i64 (i : Int))
    generalize w2.setCell ⟨w.heap.size + 1, 0, none⟩ (.int .i64 i) = w3 at Q1 Q0 hB3 ⊢
    clear S0 S1 hB2
    go_upto_region 7 with (go_at_call 68; refine (takeRun_b a1 m1 c1 (xs.drop i) 0 w3 (HR1.out w3 (HR.out.below hB3)) (by have := HM1.out; omega) hc1 hd1).mono ?_; rintro e w4 ⟨a2, m2, c2, rfl, hm2, hr2, hc2, hd2, b4⟩; rw [HP.out] at hm2 hr2 ⊢; have HM2 := Lib.hid hm2; clear hm2; have S0 := Q0.below b4 Q0.lt; have S1 := Q1.below b4 Q1.lt; have hB4 := hB3.trans (b4.mono (by have := hB3.size; omega)); have g0 := S1.c1; have g1 := S1.f 1)
    clear g0 g1 b4 Q0 Q1 hB3
    have hr3 : ∀ W, Rd W ao n xs → Rd W a2 m2 (xs.drop (i + p)) := fun W h => by have := hr2 W (HR1.out W h); rwa [HE1.out] at this
    have HR3 := Lib.hid hr3; clear hr2 hr3 HR1
    have Q1 := S1.set1 (p : Int)
    have Q0 : LnAt 65 (w4.setCell ⟨w.heap.size + 1, 1, none⟩ (.int .i64 p)) w.heap.size 0 0 (.slice none 0 0) := S0.other (by omega)
    have hB5 := hB4.setCell (p := ⟨w.heap.size + 1, 1, none⟩) (Nat.le_succ _) (.int .i64 (p : Int))
    generalize w4.setCell ⟨w.heap.size + 1, 1, none⟩ (.int .i64 p) = w5 at Q1 Q0 hB5 ⊢
    clear S0 S1 hB4
    have hm : m2 + i + p = n := by have h1 := HM1.out; have h2 := HM2.out; omega
    have q1 := Q1.c1
    have hc1 : ¬ c2 = 1 := by omega
    have HLX := Lib.hid Q1.lt
    go_upto_region 9 with (go_at_call 55; refine (isPreamble_any _ _).mono ?_; rintro e w' ⟨rfl, rfl⟩; rw [HPRE.out])
    clear q1
    obtain ⟨b, off, rfl, -⟩ := (HR3.out w HR.out).here (by omega)
    have HR4' : Hid (∀ W, Rd W ao n xs → Rd W (some ⟨b, off + 1, none⟩) (m2 - 1) (xs.drop (i + p + 1))) := Lib.hid fun W h => by have := (rd_cut (k := 1) (HR3.out W h) (by omega)).plus; rwa [HE2.out] at this
    go_upto_region 10 with (go_at_call 69; refine (takeBytes_any _ _ _ _ _ (HR4'.out _ (HR.out.below hB5)) (by omega) (by omega) (by omega) HBR.out).mono ?_; rintro e w6 ⟨v, a4, m4, c4, rfl, ov, hr4, hm4, hc4, hd4, b6⟩; rw [HT.out] at ov hr4; have S0 := Q0.below b6 Q0.lt; have S1 := Q1.below b6 Q1.lt; have hB6 := hB5.trans (b6.mono (by have := hB5.size; omega)); obtain ⟨av, cv, rfl, ov2, -⟩ := ov.get; have g0 := S1.c2; have g1 := S1.f 2)
    clear g0 g1 Q0 Q1
    have ht0 := hr4 w (HR4'.out w HR.out)
    have hlen4 : r.length = m4 := ht0.len; clear ht0
    have HR4 : Hid (∀ W, Rd W ao n xs → Rd W a4 m4 r) := Lib.hid fun W h => hr4 W (HR4'.out W h)
    have Q1 := S1.set2 (.slice av d.length cv)
    have Q0 : LnAt 65 (w6.setCell ⟨w.heap.size + 1, 2, none⟩ (.slice av d.length cv)) w.heap.size 0 0 (.slice none 0 0) := S0.other (by omega)
    have hB7 := hB6.setCell (p := ⟨w.heap.size + 1, 2, none⟩) (Nat.le_succ _) (.slice av d.length cv)
    have hlx := HLX.out
    have O7 : Own 2 (w6.setCell ⟨w.heap.size + 1, 2, none⟩ (.slice av d.length cv)) w5.heap.size (.slice av d.length cv) d := ov2.only (grown_setLn _ _ _ _) (.inr fun hk => by have := (ov2.block _ hk).1; omega)
    generalize w6.setCell ⟨w.heap.size + 1, 2, none⟩ (.slice av d.length cv) = w7 at Q1 Q0 hB7 O7 ⊢
    clear S0 S1 hB6 ov ov2 hr4
    by_cases hc2' : c4 = 2
    · skip
      obtain rfl : m4 = 2 := by omega
      have RD2 : Hid (∀ W, Rd W ao n xs → Rd W a4 0 (r.drop 2)) := Lib.hid fun W h => by rw [List.drop_of_length_le (by omega)]; exact Rd.nil_
      go_upto_region 12 with (first | (go_at_call 70; refine (beginsWith_any _ _ _ r _ 0 1 _ ((HR4.out _ (HR.out.below hB7)).below ((Below.refl _ _).alloc (Nat.le_refl _) _)) (rd_two' _ _ _) (by omega) (by omega) (by omega)).mono ?_; rintro e w8 ⟨rfl, b8⟩; rw [HBEG.out]; have b9 := ((Below.refl w7.heap.size w7).alloc (Nat.le_refl _) _).trans (b8.mono (by simp))) | (go_at_call 71; refine (contains_any _ _ _ (r.drop 2) 0 _ (RD2.out _ ((HR.out.below hB7).below b9)) (by omega)).mono ?_; rintro e w' ⟨rfl, rfl⟩; rw [HCON.out]))
      have S0 := Q0.below b9 Q0.lt
      have S1 := Q1.below b9 Q1.lt
      have hB9 := hB7.trans (b9.mono hB7.size)
      have O8 := O7.below b9
      have z0 := S0.f 0
      have y0 := S0.c0
      have x0 := S1.c0
      have z1 := S0.f 1
      have y1 := S0.c1
      have x1 := S1.c1
      have z2 := S0.f 2
      have y2 := S0.c2
      have x2 := S1.c2
      go_wp2_with fail
      clear z0 z1 z2 y0 y1 y2 x0 x1 x2
      change bodyPost _ _ _ _ _ (setLn w8 w.heap.size i p (.slice av d.length cv))
      have SF := S0.put (i : Int) (p : Int) (.slice av d.length cv)
      have BF := hB9.trans (below_setLn (B := w.heap.size) (w := w8) (b := w.heap.size) (Nat.le_refl _) (i : Int) (p : Int) (.slice av d.length cv))
      have OF : Own 2 (setLn w8 w.heap.size i p (.slice av d.length cv)) w.heap.size (.slice av d.length cv) d := (O8.only (grown_ln _ _ _ _ _) (.inr fun hk => by have := (O8.block _ hk).1; have := HLX.out; omega)).more (by have := HLX.out; omega)
      generalize setLn w8 w.heap.size i p (.slice av d.length cv) = wz at SF BF OF ⊢
      have e0 := SF.c0
      have e1 := SF.c1
      have e2 := SF.c2
      exact bodyPost_ret (v := .tuple #[.agg #[.int .i64 i, .int .i64 p, .slice av d.length cv], .int .i64 0]) (by simp [results, Try.results54, go_sem, e0, e1, e2]) rfl ⟨_, rfl, OF, BF⟩
    · skip
      obtain ⟨bb, of4, rfl, -⟩ := (HR4.out w HR.out).here (by omega)
      have RD2 : Hid (∀ W, Rd W ao n xs → Rd W (some ⟨bb, of4 + 2, none⟩) (m4 - 2) (r.drop 2)) := Lib.hid fun W h => (rd_cut (k := 2) (HR4.out W h) (by omega)).plus
      go_upto_region 12 with (first | (go_at_call 70; refine (beginsWith_any _ _ _ r _ 0 1 _ ((HR4.out _ (HR.out.below hB7)).below ((Below.refl _ _).alloc (Nat.le_refl _) _)) (rd_two' _ _ _) (by omega) (by omega) (by omega)).mono ?_; rintro e w8 ⟨rfl, b8⟩; rw [HBEG.out]; have b9 := ((Below.refl w7.heap.size w7).alloc (Nat.le_refl _) _).trans (b8.mono (by simp))) | (go_at_call 71; refine (contains_any _ _ _ (r.drop 2) 0 _ (RD2.out _ ((HR.out.below hB7).below b9)) (by omega)).mono ?_; rintro e w' ⟨rfl, rfl⟩; rw [HCON.out]))
      have S0 := Q0.below b9 Q0.lt
      have S1 := Q1.below b9 Q1.lt
      have hB9 := hB7.trans (b9.mono hB7.size)
      have O8 := O7.below b9
      have z0 := S0.f 0
      have y0 := S0.c0
      have x0 := S1.c0
      have z1 := S0.f 1
      have y1 := S0.c1
      have x1 := S1.c1
      have z2 := S0.f 2
      have y2 := S0.c2
      have x2 := S1.c2
      go_wp2_with fail
      clear z0 z1 z2 y0 y1 y2 x0 x1 x2
      change bodyPost _ _ _ _ _ (setLn w8 w.heap.size i p (.slice av d.length cv))
      have SF := S0.put (i : Int) (p : Int) (.slice av d.length cv)
      have BF := hB9.trans (below_setLn (B := w.heap.size) (w := w8) (b := w.heap.size) (Nat.le_refl _) (i : Int) (p : Int) (.slice av d.length cv))
      have OF : Own 2 (setLn w8 w.heap.size i p (.slice av d.length cv)) w.heap.size (.slice av d.length cv) d := (O8.only (grown_ln _ _ _ _ _) (.inr fun hk => by have := (O8.block _ hk).1; have := HLX.out; omega)).more (by have := HLX.out; omega)
      generalize setLn w8 w.heap.size i p (.slice av d.length cv) = wz at SF BF OF ⊢
      have e0 := SF.c0
      have e1 := SF.c1
      have e2 := SF.c2
      exact bodyPost_ret (v := .tuple #[.agg #[.int .i64 i, .int .i64 p, .slice av d.length cv], .int .i64 0]) (by simp [results, Try.results54, go_sem, e0, e1, e2]) rfl ⟨_, rfl, OF, BF⟩
  · have HCON := Lib.hid hcon
    have hz := ln_6c HBI.out HI.out HP.out HT.out (fun h => h.2 (of_decide_eq_true hcon)) HRB.out
    rw [hz]; clear hz hcon
    have HPRE := Lib.hid hpre; clear hpre
    go_enter Try.func54, Try.ntmps54
    go_upto_region 5 with (go_at_call 50; refine (isBits_any _ _ _ _ _ (HR.out.below hB) (by omega)).mono ?_; rintro e w' ⟨rfl, rfl⟩; rw [HBI.out])
    generalize (w.alloc (.cells #[.int .i64 0, .int .i64 0, .slice none 0 0] 65)).alloc (.cells #[.int .i64 0, .int .i64 0, .slice none 0 0] 65) = w1 at R0' R1 hB' ⊢
    go_upto_region 6 with (go_at_call 68; refine (takeRun_b ao n cap xs 1 w1 (HR.out.below hB') (by omega) hcap hcap2).mono ?_; rintro e w2 ⟨a1, m1, c1, rfl, hm1, hr1, hc1, hd1, b2⟩; rw [HI.out] at hm1 hr1 ⊢; have HM1 := Lib.hid hm1; clear hm1; have HR1 := Lib.hid hr1; clear hr1; have S0 := R0'.below b2 R0'.lt; have S1 := R1.below b2 R1.lt; have hB2 := hB'.trans (b2.mono (by have := hB'.size; omega)); have g0 := S1.c0; have g1 := S1.f 0)
    clear g0 g1 b2 R0' R1 hB'
    have Q1 := S1.set0 (i : Int)
    have Q0 : LnAt 65 (w2.setCell ⟨w.heap.size + 1, 0, none⟩ (.int .i64 i)) w.heap.size 0 0 (.slice none 0 0) := S0.other (by omega)
    have hB3 := hB2.setCell (p := ⟨w.heap.size + 1, 0, none⟩) (Nat.le_succ _) (.int .i64 (i : Int))
    generalize w2.setCell ⟨w.heap.size + 1, 0, none⟩ (.int .i64 i) = w3 at Q1 Q0 hB3 ⊢
    clear S0 S1 hB2
    go_upto_region 7 with (go_at_call 68; refine (takeRun_b a1 m1 c1 (xs.drop i) 0 w3 (HR1.out w3 (HR.out.below hB3)) (by have := HM1.out; omega) hc1 hd1).mono ?_; rintro e w4 ⟨a2, m2, c2, rfl, hm2, hr2, hc2, hd2, b4⟩; rw [HP.out] at hm2 hr2 ⊢; have HM2 := Lib.hid hm2; clear hm2; have S0 := Q0.below b4 Q0.lt; have S1 := Q1.below b4 Q1.lt; have hB4 := hB3.trans (b4.mono (by have := hB3.size; omega)); have g0 := S1.c1; have g1 := S1.f 1)
    clear g0 g1 b4 Q0 Q1 hB3
    have hr3 : ∀ W, Rd W ao n xs → Rd W a2 m2 (xs.drop (i + p)) := fun W h => by have := hr2 W (HR1.out W h); rwa [HE1.out] at this
    have HR3 := Lib.hid hr3; clear hr2 hr3 HR1
    have Q1 := S1.set1 (p : Int)
    have Q0 : LnAt 65 (w4.setCell ⟨w.heap.size + 1, 1, none⟩ (.int .i64 p)) w.heap.size 0 0 (.slice none 0 0) := S0.other (by omega)
    have hB5 := hB4.setCell (p := ⟨w.heap.size + 1, 1, none⟩) (Nat.le_succ _) (.int .i64 (p : Int))
    generalize w4.setCell ⟨w.heap.size + 1, 1, none⟩ (.int .i64 p) = w5 at Q1 Q0 hB5 ⊢
    clear S0 S1 hB4
    have hm : m2 + i + p = n := by have h1 := HM1.out; have h2 := HM2.out; omega
    have q1 := Q1.c1
    have hc1 : ¬ c2 = 1 := by omega
    have HLX := Lib.hid Q1.lt
    go_upto_region 9 with (go_at_call 55; refine (isPreamble_any _ _).mono ?_; rintro e w' ⟨rfl, rfl⟩; rw [HPRE.out])
    clear q1
    obtain ⟨b, off, rfl, -⟩ := (HR3.out w HR.out).here (by omega)
    have HR4' : Hid (∀ W, Rd W ao n xs → Rd W (some ⟨b, off + 1, none⟩) (m2 - 1) (xs.drop (i + p + 1))) := Lib.hid fun W h => by have := (rd_cut (k := 1) (HR3.out W h) (by omega)).plus; rwa [HE2.out] at this
    go_upto_region 10 with (go_at_call 69; refine (takeBytes_any _ _ _ _ _ (HR4'.out _ (HR.out.below hB5)) (by omega) (by omega) (by omega) HBR.out).mono ?_; rintro e w6 ⟨v, a4, m4, c4, rfl, ov, hr4, hm4, hc4, hd4, b6⟩; rw [HT.out] at ov hr4; have S0 := Q0.below b6 Q0.lt; have S1 := Q1.below b6 Q1.lt; have hB6 := hB5.trans (b6.mono (by have := hB5.size; omega)); obtain ⟨av, cv, rfl, ov2, -⟩ := ov.get; have g0 := S1.c2; have g1 := S1.f 2)
    clear g0 g1 Q0 Q1
    have ht0 := hr4 w (HR4'.out w HR.out)
    have hlen4 : r.length = m4 := ht0.len; clear ht0
    have HR4 : Hid (∀ W, Rd W ao n xs → Rd W a4 m4 r) := Lib.hid fun W h => hr4 W (HR4'.out W h)
    have Q1 := S1.set2 (.slice av d.length cv)
    have Q0 : LnAt 65 (w6.setCell ⟨w.heap.size + 1, 2, none⟩ (.slice av d.length cv)) w.heap.size 0 0 (.slice none 0 0) := S0.other (by omega)
    have hB7 := hB6.setCell (p := ⟨w.heap.size + 1, 2, none⟩) (Nat.le_succ _) (.slice av d.length cv)
    have hlx := HLX.out
    have O7 : Own 2 (w6.setCell ⟨w.heap.size + 1, 2, none⟩ (.slice av d.length cv)) w5.heap.size (.slice av d.length cv) d := ov2.only (grown_setLn _ _ _ _) (.inr fun hk => by have := (ov2.block _ hk).1; omega)
    generalize w6.setCell ⟨w.heap.size + 1, 2, none⟩ (.slice av d.length cv) = w7 at Q1 Q0 hB7 O7 ⊢
    clear S0 S1 hB6 ov ov2 hr4
    by_cases hc2' : c4 = 2
    · skip
      obtain rfl : m4 = 2 := by omega
      have RD2 : Hid (∀ W, Rd W ao n xs → Rd W a4 0 (r.drop 2)) := Lib.hid fun W h => by rw [List.drop_of_length_le (by omega)]; exact Rd.nil_
      go_upto_region 11 with (first | (go_at_call 70; refine (beginsWith_any _ _ _ r _ 0 1 _ ((HR4.out _ (HR.out.below hB7)).below ((Below.refl _ _).alloc (Nat.le_refl _) _)) (rd_two' _ _ _) (by omega) (by omega) (by omega)).mono ?_; rintro e w8 ⟨rfl, b8⟩; rw [HBEG.out]; have b9 := ((Below.refl w7.heap.size w7).alloc (Nat.le_refl _) _).trans (b8.mono (by simp))) | (go_at_call 71; refine (contains_any _ _ _ (r.drop 2) 0 _ (RD2.out _ ((HR.out.below hB7).below b9)) (by omega)).mono ?_; rintro e w' ⟨rfl, rfl⟩; rw [HCON.out]))
      have S0 := Q0.below b9 Q0.lt
      have S1 := Q1.below b9 Q1.lt
      have hB9 := hB7.trans (b9.mono hB7.size)
      have z0 := S0.f 0
      have y0 := S0.c0
      have z1 := S0.f 1
      have y1 := S0.c1
      have z2 := S0.f 2
      have y2 := S0.c2
      go_wp2_with fail
      clear z0 z1 z2 y0 y1 y2
      change bodyPost _ _ _ _ _ (setLn w8 w.heap.size 0 0 (.slice none 0 0))
      have SF := S0.put 0 0 (.slice none 0 0)
      have BF := hB9.trans (below_setLn (B := w.heap.size) (w := w8) (b := w.heap.size) (Nat.le_refl _) 0 0 (.slice none 0 0))
      generalize setLn w8 w.heap.size 0 0 (.slice none 0 0) = wz at SF BF ⊢
      have e0 := SF.c0
      have e1 := SF.c1
      have e2 := SF.c2
      exact bodyPost_ret (v := .tuple #[.agg #[.int .i64 0, .int .i64 0, .slice none 0 0], .int .i64 6]) (by simp [results, Try.results54, go_sem, e0, e1, e2]) rfl ⟨_, rfl, Own.nil_, BF⟩
    · skip
      obtain ⟨bb, of4, rfl, -⟩ := (HR4.out w HR.out).here (by omega)
      have RD2 : Hid (∀ W, Rd W ao n xs → Rd W (some ⟨bb, of4 + 2, none⟩) (m4 - 2) (r.drop 2)) := Lib.hid fun W h => (rd_cut (k := 2) (HR4.out W h) (by omega)).plus
      go_upto_region 11 with (first | (go_at_call 70; refine (beginsWith_any _ _ _ r _ 0 1 _ ((HR4.out _ (HR.out.below hB7)).below ((Below.refl _ _).alloc (Nat.le_refl _) _)) (rd_two' _ _ _) (by omega) (by omega) (by omega)).mono ?_; rintro e w8 ⟨rfl, b8⟩; rw [HBEG.out]; have b9 := ((Below.refl w7.heap.size w7).alloc (Nat.le_refl _) _).trans (b8.mono (by simp))) | (go_at_call 71; refine (contains_any _ _ _ (r.drop 2) 0 _ (RD2.out _ ((HR.out.below hB7).below b9)) (by omega)).mono ?_; rintro e w' ⟨rfl, rfl⟩; rw [HCON.out]))
      have S0 := Q0.below b9 Q0.lt
      have S1 := Q1.below b9 Q1.lt
      have hB9 := hB7.trans (b9.mono hB7.size)
      have z0 := S0.f 0
      have y0 := S0.c0
      have z1 := S0.f 1
      have y1 := S0.c1
      have z2 := S0.f 2
      have y2 := S0.c2
      go_wp2_with fail
      clear z0 z1 z2 y0 y1 y2
      change bodyPost _ _ _ _ _ (setLn w8 w.heap.size 0 0 (.slice none 0 0))
      have SF := S0.put 0 0 (.slice none 0 0)
      have BF := hB9.trans (below_setLn (B := w.heap.size) (w := w8) (b := w.heap.size) (Nat.le_refl _) 0 0 (.slice none 0 0))
      generalize setLn w8 w.heap.size 0 0 (.slice none 0 0) = wz at SF BF ⊢
      have e0 := SF.c0
      have e1 := SF.c1
      have e2 := SF.c2
      exact bodyPost_ret (v := .tuple #[.agg #[.int .i64 0, .int .i64 0, .slice none 0 0], .int .i64 6]) (by simp [results, Try.results54, go_sem, e0, e1, e2]) rfl ⟨_, rfl, Own.nil_, BF⟩
end Go.Proofs.Ytilkopbfbmibgaa
