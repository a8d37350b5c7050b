/-
  Chapter 6: frames drawn: l06Draw.
-/
import Derived.Test.YtbdfnkhmnglpbaaGH
import Derived.Test.YtbdfnkhmnglpbaaFourD
import Derived.Test.YtbdfnkhmnglpbaaDrawA
namespace Go.Proofs.Ytbdfnkhmnglpbaa
open Go.RowKit

/-- While a frame is drawn: the result, still the zero value; the frame so far in block J; the source. -/
structure DrawSt (w wi : World) (p J : Nat) (a q t m r s k : Int) (v : Value) : Prop where
  res : FrameAt 28 wi w.heap.size 0 0 0 0 0 0 0 (.slice none 0 0)
  var : FrameAt 28 wi J a q t m r s k v
  lt : w.heap.size < J
  src : Src 133 wi p
  grown : w.grownBy wi (some p)
  hp : p < w.heap.size
section
variable {w wi wj : World} {p J : Nat} {a q t m r s k : Int} {v : Value}
theorem DrawSt.next (h : DrawSt w wi p J a q t m r s k v) (hs : Src 133 wj p) (g : wi.grownBy wj (some p)) : DrawSt w wj p J a q t m r s k v :=
  have h1 := h.hp
  have h2 := h.lt
  ⟨h.res.grown g (by simp; omega), h.var.grown g (by simp; omega), h.lt, hs, grown_trans h.grown g, h.hp⟩
theorem DrawSt.call (h : DrawSt w wi p J a q t m r s k v) (b : Below wi.heap.size wi wj) : DrawSt w wj p J a q t m r s k v :=
  ⟨h.res.below b h.res.lt, h.var.below b h.var.lt, h.lt, h.src.below b, grown_trans h.grown (grown_of_below b), h.hp⟩
/-- A step that leaves alone all below the frame's block. -/
theorem DrawSt.step {a' q' t' m' r' s' k' : Int} {v' : Value} (h : DrawSt w wi p J a q t m r s k v) (b : Below J wi wj) (hv : FrameAt 28 wj J a' q' t' m' r' s' k' v') : DrawSt w wj p J a' q' t' m' r' s' k' v' :=
  have h1 := h.hp
  have h2 := h.lt
  ⟨h.res.below b h.lt, hv, h.lt, h.src.belowB b (by omega), grown_step h.grown b (by omega), h.hp⟩
theorem DrawSt.app (h : DrawSt w wi p J a q t m r s k v) (b : Below (J + 1) wi wj) : DrawSt w wj p J a q t m r s k v := h.step (b.mono (Nat.le_succ _)) (h.var.below b (Nat.lt_succ_self _))
theorem DrawSt.size (h : DrawSt w wi p J a q t m r s k v) : J + 1 ≤ wi.heap.size := h.var.lt
theorem DrawSt.five (h : DrawSt w wi p J a q t m r s k v) (t' m' r' s' k' : Int) : DrawSt w (setFiveAt wi J 2 t' m' r' s' k') p J a q t' m' r' s' k' v := h.step (below_fiveAt (Nat.le_refl _) _ _ _ _ _) (h.var.fiveAt t' m' r' s' k')
theorem DrawSt.cell {a' q' t' m' r' s' k' : Int} {v' : Value} (h : DrawSt w wi p J a q t m r s k v) (i : Nat) (u : Value) (hv : FrameAt 28 (wi.setCell ⟨J, i, none⟩ u) J a' q' t' m' r' s' k' v') : DrawSt w (wi.setCell ⟨J, i, none⟩ u) p J a' q' t' m' r' s' k' v' := h.step ((Below.refl J wi).setCell (p := ⟨J, i, none⟩) (Nat.le_refl _) u) hv
theorem DrawSt.fin (h : DrawSt w wi p J a q t m r s k v) (a' q' t' m' r' s' k' : Int) (v' : Value) : FrameAt 28 (setEight wi w.heap.size a' q' t' m' r' s' k' v') w.heap.size a' q' t' m' r' s' k' v' ∧ Src 133 (setEight wi w.heap.size a' q' t' m' r' s' k' v') p ∧ w.grownBy (setEight wi w.heap.size a' q' t' m' r' s' k' v') (some p) :=
  have b : Below w.heap.size wi (setEight wi w.heap.size a' q' t' m' r' s' k' v') := below_eight (Nat.le_refl _) _ _ _ _ _ _ _ _
  ⟨h.res.eight a' q' t' m' r' s' k' v', h.src.belowB b h.hp, grown_step h.grown b (Nat.le_refl _)⟩
end
/-- The frame's block is laid. -/
theorem DrawSt.start {w w2 : World} {p : Nat} {a q t m r s k : Int} {v : Value} (hs : Src 133 w2 p) (g : (w.alloc (.cells #[.int .i64 0, .int .i64 0, .int .i64 0, .int .i64 0, .int .i64 0, .int .i64 0, .int .i64 0, .slice none 0 0] 28)).grownBy w2 (some p)) (hp : p < w.heap.size) : DrawSt w (w2.alloc (.cells #[.int .i64 a, .int .i64 q, .int .i64 t, .int .i64 m, .int .i64 r, .int .i64 s, .int .i64 k, v] 28)) p w2.heap.size a q t m r s k v := by
  have b1 : Below w2.heap.size w2 (w2.alloc (.cells #[.int .i64 a, .int .i64 q, .int .i64 t, .int .i64 m, .int .i64 r, .int .i64 s, .int .i64 k, v] 28)) := (Below.refl _ _).alloc (Nat.le_refl _) _
  have r1 : FrameAt 28 w2 w.heap.size 0 0 0 0 0 0 0 (.slice none 0 0) := (FrameAt.new w).grown g (by simp; omega)
  exact ⟨r1.below b1 r1.lt, FrameAt.new w2, r1.lt, hs.below b1, grown_trans (grown_trans (grown_of_below ((Below.refl _ _).alloc (Nat.le_refl _) _)) g) (grown_of_below b1), hp⟩
/-- What a draw of a frame leaves. -/
def DrawnFrame (w : World) (p : Nat) (e : Ending) (w' : World) : Prop :=
  ∃ (a q t m r s k : Int) (ao : Option Addr) (cap : Nat) (d : List Int), e = .returned (.agg #[.int .i64 a, .int .i64 q, .int .i64 t, .int .i64 m, .int .i64 r, .int .i64 s, .int .i64 k, .slice ao d.length cap]) ∧ Own 2 w' w.heap.size (.slice ao d.length cap) d ∧ d.length ≤ 9000 ∧ Src 133 w' p ∧ w.grownBy w' (some p)

set_option maxHeartbeats 4000000 in
set_option maxRecDepth 100000 in
theorem l06Draw_any (p : Nat) (w : World) (hs : Src 133 w p) : Calls Try.prog 115 #[.pointer (some ⟨p, 0, none⟩)] w (DrawnFrame w p) := by
  have hp := hs.lt
  have HA := Lib.hid (Below.alloc (Below.refl w.heap.size w) (Nat.le_refl _) (.cells #[.int .i64 0, .int .i64 0, .int .i64 0, .int .i64 0, .int .i64 0, .int .i64 0, .int .i64 0, .slice none 0 0] 28))
  have S0 := Lib.hid (hs.below HA.out)
  clear hs
  go_enter Try.func115, Try.ntmps115
  go_wp2_with fail
  refine (next_any _ _ _ S0.out (by omega)).mono ?_
  rintro e w1 ⟨a, rfl, a0, a1, -, hs1, g1⟩
  have S1 := Lib.hid hs1
  have G1 := Lib.hid g1
  clear hs1 g1 S0
  go_wp2_with fail
  refine (next_any _ _ _ S1.out (by omega)).mono ?_
  rintro e w2 ⟨q, rfl, -, -, -, hs2, g2⟩
  have G2 := Lib.hid (grown_trans G1.out g2)
  have D2 := Lib.hid (DrawSt.start (a := a) (q := q) (t := 0) (m := 0) (r := 0) (s := 0) (k := 0) (v := .slice none 0 0) hs2 G2.out hp)
  clear hs2 g2 S1 G1 G2 HA
  have hA : a = 0 ∨ a = 1 ∨ a = 2 ∨ a = 3 := by omega
  clear a0 a1
  go_wp2_with fail
  obtain ⟨J, hJ⟩ : ∃ b, b = w2.heap.size := ⟨_, rfl⟩
  rw [← hJ] at D2 ⊢
  clear hJ
  generalize w2.alloc (.cells #[.int .i64 a, .int .i64 q, .int .i64 0, .int .i64 0, .int .i64 0, .int .i64 0, .int .i64 0, .slice none 0 0] 28) = w3 at D2 ⊢
  refine (l06State_any _ _).mono ?_
  rintro e w3' ⟨rfl, rfl⟩
  rcases hA with rfl | rfl | rfl | rfl

  · rw [show ((0 : Int) != 0) = false from rfl]
    have c0 := D2.out.var.c0
    have l0 := D2.out.var.lt
    go_wp2_with fail
    clear c0 l0
    refine (l06Data_any _ _).mono ?_
    rintro e w5' ⟨rfl, rfl⟩
    rw [show hasData 0 = true from rfl]
    have D6 := Lib.hid (D2.out.call ((Below.refl _ _).alloc (Nat.le_refl _) (.cells #[] 2)))
    have O6 : Hid (Own 2 (w3.alloc (.cells #[] 2)) (J + 1) (.slice (some ⟨w3.heap.size, 0, none⟩) 0 0) []) := Own.of_alloc_nil D2.out.size
    obtain ⟨b6, hb6⟩ : ∃ b, b = w3.heap.size := ⟨_, rfl⟩
    rw [← hb6] at O6 ⊢
    clear hb6 D2
    generalize w3.alloc (.cells #[] 2) = w6 at D6 O6 ⊢
    go_wp2_with fail
    refine (next_any _ _ _ D6.out.src (by omega)).mono ?_
    rintro e w7 ⟨n0, rfl, n00, n01, -, hs7, g7⟩
    have hpj : p < J + 1 := by have := D6.out.lt; omega
    have O7 := Lib.hid (O6.out.src g7 hpj)
    have D7 := Lib.hid (D6.out.next hs7 g7)
    clear hs7 g7 D6 O6
    replace n01 := n01 (by omega)
    obtain ⟨n0, rfl⟩ := Int.eq_ofNat_of_zero_le n00
    have hw : IntKind.i64.wrap (1 + (n0 : Int)) = ((n0 + 1 : Nat) : Int) := by rw [IntKind.wrap_i64]; omega
    obtain ⟨n, hn⟩ : ∃ n : Nat, n = n0 + 1 := ⟨_, rfl⟩
    rw [← hn] at hw
    have hn6 : n ≤ 6 := by omega
    clear n00 hn
    go_wp2
    clear hw n01
    go_loopw [4, 5] (fun v i wr => ∃ (k9 : Nat) (xs : List Int), k9 ≤ n ∧ i = .int .i64 k9 ∧ Hid (xs.length = n - k9) ∧ Hid (Own 2 wr (J + 1) v xs) ∧ Hid (DrawSt w wr p J 0 q 0 0 0 0 0 (.slice none 0 0))) (fun _ i _ => (intOf i).toNat)
    case atStart => exact ⟨n, [], Nat.le_refl _, rfl, Lib.hid (by simp), O7, D7⟩
    case round =>
      clear O7 D7
      obtain ⟨k9, xs, hk, rfl, HXL, O8, D8⟩ := hrel
      have hls : xs.length ≤ 4294967296 := by have := HXL.out; omega
      rcases k9 with _ | k9
      · have hlt0 : ¬ (0 : Int) < ((0 : Nat) : Int) := by omega
        have HL9 : Hid (xs.length ≤ 6) := Lib.hid (by have := HXL.out; omega)
        obtain ⟨ao9, cp9, rfl, o9, -⟩ := O8.out.get
        have O9 := Lib.hid o9
        clear o9 O8 HXL
        have c0 := D8.out.var.c0
        have c1 := D8.out.var.c1
        have c2 := D8.out.var.c2
        have c3 := D8.out.var.c3
        have c4 := D8.out.var.c4
        have c5 := D8.out.var.c5
        have c6 := D8.out.var.c6
        have c7 := D8.out.var.c7
        have d0 := D8.out.res.c0
        have d1 := D8.out.res.c1
        have d2 := D8.out.res.c2
        have d3 := D8.out.res.c3
        have d4 := D8.out.res.c4
        have d5 := D8.out.res.c5
        have d6 := D8.out.res.c6
        have d7 := D8.out.res.c7
        have f0 := D8.out.res.f 0
        have f1 := D8.out.res.f 1
        have f2 := D8.out.res.f 2
        have f3 := D8.out.res.f 3
        have f4 := D8.out.res.f 4
        have f5 := D8.out.res.f 5
        have f6 := D8.out.res.f 6
        have f7 := D8.out.res.f 7
        have e1 : ((0 : Int) == 3) = false := by decide
        go_wp2_with fail
        clear c0 c1 c2 c3 c4 c5 c6 c7 d0 d1 d2 d3 d4 d5 d6 d7 f0 f1 f2 f3 f4 f5 f6 f7
        change bodyPost _ _ _ _ _ (setEight wr w.heap.size 0 q 0 0 0 0 0 (.slice ao9 xs.length cp9))
        obtain ⟨SF, SS, SG⟩ := D8.out.fin 0 q 0 0 0 0 0 (.slice ao9 xs.length cp9)
        have OF := (O9.out.awayEight (b := w.heap.size) (by have := D8.out.lt; omega) 0 q 0 0 0 0 0 (.slice ao9 xs.length cp9)).more (base' := w.heap.size) (by have := D8.out.lt; omega)
        generalize setEight wr w.heap.size 0 q 0 0 0 0 0 (.slice ao9 xs.length cp9) = wz at SF SS SG OF ⊢
        have e0 := SF.c0
        have e1 := SF.c1
        have e2 := SF.c2
        have e3 := SF.c3
        have e4 := SF.c4
        have e5 := SF.c5
        have e6 := SF.c6
        have e7 := SF.c7
        exact bodyPost_ret (v := .agg #[.int .i64 0, .int .i64 q, .int .i64 0, .int .i64 0, .int .i64 0, .int .i64 0, .int .i64 0, .slice ao9 xs.length cp9]) (by simp [results, Try.results115, go_sem, e0, e1, e2, e3, e4, e5, e6, e7]) rfl ⟨0, q, 0, 0, 0, 0, 0, _, _, _, rfl, OF, by have := HL9.out; omega, SS, SG⟩
      · have hgt : (0 : Int) < ((k9 + 1 : Nat) : Int) := by omega
        have hw9 : IntKind.i64.wrap (((k9 + 1 : Nat) : Int) - 1) = (k9 : Int) := by rw [IntKind.wrap_i64]; omega
        go_wp2_with fail
        refine (next_any _ _ _ D8.out.src (by omega)).mono ?_
        rintro e w9 ⟨z, rfl, -, -, -, hs9, g9⟩
        have O9 := Lib.hid (O8.out.src g9 hpj)
        have D9 := Lib.hid (D8.out.next hs9 g9)
        clear hs9 g9 O8 D8
        go_wp2_with (at_builtin; refine append_one _ rfl (.tmp 28) (.tmp 31) rfl (J + 1) Try.underlying26 info64 _ _ rfl (O9.out.below ((Below.refl _ _).alloc (Nat.le_refl _) _)) _ _ _ rfl (new_cell rfl) hls (by have := D9.out.size; simp; omega) ?_; intro v10 w10 o10 b10; have O10 := Lib.hid o10; have D10 := Lib.hid ((D9.out.call ((Below.refl _ _).alloc (Nat.le_refl _) _)).app b10); clear o10 b10)
        go_roundw
        case rel => exact ⟨k9, xs ++ [z], by omega, by go_num, Lib.hid (by rw [List.length_append, List.length_singleton, HXL.out]; omega), O10, D10⟩
        case measure => simp [intOf]
  · rw [show ((1 : Int) != 0) = true from rfl]
    go_wp2_with fail
    refine (l04Draw_any _ _ D2.out.src).mono ?_
    rintro e w4 ⟨t, m, r, s, k, rfl, hs4, g4⟩
    have D4 := Lib.hid (D2.out.next hs4 g4)
    clear hs4 g4 D2
    have c2 := D4.out.var.c2
    have f2 := D4.out.var.f 2
    have c3 := D4.out.var.c3
    have f3 := D4.out.var.f 3
    have c4 := D4.out.var.c4
    have f4 := D4.out.var.f 4
    have c5 := D4.out.var.c5
    have f5 := D4.out.var.f 5
    have c6 := D4.out.var.c6
    have f6 := D4.out.var.f 6
    go_upto_region 4 with fail
    clear c2 c3 c4 c5 c6 f2 f3 f4 f5 f6
    first | change Code.wp _ _ _ _ (setFiveAt w4 J 2 t m r s k) | change Exit.then _ _ _ _ (setFiveAt w4 J 2 t m r s k)
    have D5 := Lib.hid (D4.out.five t m r s k)
    generalize setFiveAt w4 J 2 t m r s k = w5 at D5 ⊢
    clear D4
    have c0 := D5.out.var.c0
    have l0 := D5.out.var.lt
    go_wp2_with fail
    clear c0 l0
    refine (l06Data_any _ _).mono ?_
    rintro e w5' ⟨rfl, rfl⟩
    rw [show hasData 1 = false from rfl]
    have D6 := Lib.hid (D5.out.call ((Below.refl _ _).alloc (Nat.le_refl _) (.cells #[] 2)))
    have O6 : Hid (Own 2 (w5.alloc (.cells #[] 2)) (J + 1) (.slice (some ⟨w5.heap.size, 0, none⟩) 0 0) []) := Own.of_alloc_nil D5.out.size
    obtain ⟨b6, hb6⟩ : ∃ b, b = w5.heap.size := ⟨_, rfl⟩
    rw [← hb6] at O6 ⊢
    clear hb6 D5
    generalize w5.alloc (.cells #[] 2) = w6 at D6 O6 ⊢
    have c0 := D6.out.var.c0
    have c1 := D6.out.var.c1
    have c2 := D6.out.var.c2
    have c3 := D6.out.var.c3
    have c4 := D6.out.var.c4
    have c5 := D6.out.var.c5
    have c6 := D6.out.var.c6
    have c7 := D6.out.var.c7
    have d0 := D6.out.res.c0
    have d1 := D6.out.res.c1
    have d2 := D6.out.res.c2
    have d3 := D6.out.res.c3
    have d4 := D6.out.res.c4
    have d5 := D6.out.res.c5
    have d6 := D6.out.res.c6
    have d7 := D6.out.res.c7
    have f0 := D6.out.res.f 0
    have f1 := D6.out.res.f 1
    have f2 := D6.out.res.f 2
    have f3 := D6.out.res.f 3
    have f4 := D6.out.res.f 4
    have f5 := D6.out.res.f 5
    have f6 := D6.out.res.f 6
    have f7 := D6.out.res.f 7
    have e1 : ((1 : Int) == 3) = false := by decide
    go_wp2_with fail
    clear c0 c1 c2 c3 c4 c5 c6 c7 d0 d1 d2 d3 d4 d5 d6 d7 f0 f1 f2 f3 f4 f5 f6 f7
    change bodyPost _ _ _ _ _ (setEight w6 w.heap.size 1 q t m r s k (.slice (some ⟨b6, 0, none⟩) 0 0))
    obtain ⟨SF, SS, SG⟩ := D6.out.fin 1 q t m r s k (.slice (some ⟨b6, 0, none⟩) 0 0)
    have OF := (O6.out.awayEight (b := w.heap.size) (by have := D6.out.lt; omega) 1 q t m r s k (.slice (some ⟨b6, 0, none⟩) 0 0)).more (base' := w.heap.size) (by have := D6.out.lt; omega)
    generalize setEight w6 w.heap.size 1 q t m r s k (.slice (some ⟨b6, 0, none⟩) 0 0) = wz at SF SS SG OF ⊢
    have e0 := SF.c0
    have e1 := SF.c1
    have e2 := SF.c2
    have e3 := SF.c3
    have e4 := SF.c4
    have e5 := SF.c5
    have e6 := SF.c6
    have e7 := SF.c7
    exact bodyPost_ret (v := .agg #[.int .i64 1, .int .i64 q, .int .i64 t, .int .i64 m, .int .i64 r, .int .i64 s, .int .i64 k, .slice (some ⟨b6, 0, none⟩) 0 0]) (by simp [results, Try.results115, go_sem, e0, e1, e2, e3, e4, e5, e6, e7]) rfl ⟨1, q, t, m, r, s, k, _, _, _, rfl, OF, by simp, SS, SG⟩
  · rw [show ((2 : Int) != 0) = true from rfl]
    go_wp2_with fail
    refine (l04Draw_any _ _ D2.out.src).mono ?_
    rintro e w4 ⟨t, m, r, s, k, rfl, hs4, g4⟩
    have D4 := Lib.hid (D2.out.next hs4 g4)
    clear hs4 g4 D2
    have c2 := D4.out.var.c2
    have f2 := D4.out.var.f 2
    have c3 := D4.out.var.c3
    have f3 := D4.out.var.f 3
    have c4 := D4.out.var.c4
    have f4 := D4.out.var.f 4
    have c5 := D4.out.var.c5
    have f5 := D4.out.var.f 5
    have c6 := D4.out.var.c6
    have f6 := D4.out.var.f 6
    go_upto_region 4 with fail
    clear c2 c3 c4 c5 c6 f2 f3 f4 f5 f6
    first | change Code.wp _ _ _ _ (setFiveAt w4 J 2 t m r s k) | change Exit.then _ _ _ _ (setFiveAt w4 J 2 t m r s k)
    have D5 := Lib.hid (D4.out.five t m r s k)
    generalize setFiveAt w4 J 2 t m r s k = w5 at D5 ⊢
    clear D4
    have c0 := D5.out.var.c0
    have l0 := D5.out.var.lt
    go_wp2_with fail
    clear c0 l0
    refine (l06Data_any _ _).mono ?_
    rintro e w5' ⟨rfl, rfl⟩
    rw [show hasData 2 = true from rfl]
    have D6 := Lib.hid (D5.out.call ((Below.refl _ _).alloc (Nat.le_refl _) (.cells #[] 2)))
    have O6 : Hid (Own 2 (w5.alloc (.cells #[] 2)) (J + 1) (.slice (some ⟨w5.heap.size, 0, none⟩) 0 0) []) := Own.of_alloc_nil D5.out.size
    obtain ⟨b6, hb6⟩ : ∃ b, b = w5.heap.size := ⟨_, rfl⟩
    rw [← hb6] at O6 ⊢
    clear hb6 D5
    generalize w5.alloc (.cells #[] 2) = w6 at D6 O6 ⊢
    go_wp2_with fail
    refine (next_any _ _ _ D6.out.src (by omega)).mono ?_
    rintro e w7 ⟨n0, rfl, n00, n01, -, hs7, g7⟩
    have hpj : p < J + 1 := by have := D6.out.lt; omega
    have O7 := Lib.hid (O6.out.src g7 hpj)
    have D7 := Lib.hid (D6.out.next hs7 g7)
    clear hs7 g7 D6 O6
    replace n01 := n01 (by omega)
    obtain ⟨n0, rfl⟩ := Int.eq_ofNat_of_zero_le n00
    have hw : IntKind.i64.wrap (1 + (n0 : Int)) = ((n0 + 1 : Nat) : Int) := by rw [IntKind.wrap_i64]; omega
    obtain ⟨n, hn⟩ : ∃ n : Nat, n = n0 + 1 := ⟨_, rfl⟩
    rw [← hn] at hw
    have hn6 : n ≤ 6 := by omega
    clear n00 hn
    go_wp2
    clear hw n01
    go_loopw [4, 5] (fun v i wr => ∃ (k9 : Nat) (xs : List Int), k9 ≤ n ∧ i = .int .i64 k9 ∧ Hid (xs.length = n - k9) ∧ Hid (Own 2 wr (J + 1) v xs) ∧ Hid (DrawSt w wr p J 2 q t m r s k (.slice none 0 0))) (fun _ i _ => (intOf i).toNat)
    case atStart => exact ⟨n, [], Nat.le_refl _, rfl, Lib.hid (by simp), O7, D7⟩
    case round =>
      clear O7 D7
      obtain ⟨k9, xs, hk, rfl, HXL, O8, D8⟩ := hrel
      have hls : xs.length ≤ 4294967296 := by have := HXL.out; omega
      rcases k9 with _ | k9
      · have hlt0 : ¬ (0 : Int) < ((0 : Nat) : Int) := by omega
        have HL9 : Hid (xs.length ≤ 6) := Lib.hid (by have := HXL.out; omega)
        obtain ⟨ao9, cp9, rfl, o9, -⟩ := O8.out.get
        have O9 := Lib.hid o9
        clear o9 O8 HXL
        have c0 := D8.out.var.c0
        have c1 := D8.out.var.c1
        have c2 := D8.out.var.c2
        have c3 := D8.out.var.c3
        have c4 := D8.out.var.c4
        have c5 := D8.out.var.c5
        have c6 := D8.out.var.c6
        have c7 := D8.out.var.c7
        have d0 := D8.out.res.c0
        have d1 := D8.out.res.c1
        have d2 := D8.out.res.c2
        have d3 := D8.out.res.c3
        have d4 := D8.out.res.c4
        have d5 := D8.out.res.c5
        have d6 := D8.out.res.c6
        have d7 := D8.out.res.c7
        have f0 := D8.out.res.f 0
        have f1 := D8.out.res.f 1
        have f2 := D8.out.res.f 2
        have f3 := D8.out.res.f 3
        have f4 := D8.out.res.f 4
        have f5 := D8.out.res.f 5
        have f6 := D8.out.res.f 6
        have f7 := D8.out.res.f 7
        have e1 : ((2 : Int) == 3) = false := by decide
        go_wp2_with fail
        clear c0 c1 c2 c3 c4 c5 c6 c7 d0 d1 d2 d3 d4 d5 d6 d7 f0 f1 f2 f3 f4 f5 f6 f7
        change bodyPost _ _ _ _ _ (setEight wr w.heap.size 2 q t m r s k (.slice ao9 xs.length cp9))
        obtain ⟨SF, SS, SG⟩ := D8.out.fin 2 q t m r s k (.slice ao9 xs.length cp9)
        have OF := (O9.out.awayEight (b := w.heap.size) (by have := D8.out.lt; omega) 2 q t m r s k (.slice ao9 xs.length cp9)).more (base' := w.heap.size) (by have := D8.out.lt; omega)
        generalize setEight wr w.heap.size 2 q t m r s k (.slice ao9 xs.length cp9) = wz at SF SS SG OF ⊢
        have e0 := SF.c0
        have e1 := SF.c1
        have e2 := SF.c2
        have e3 := SF.c3
        have e4 := SF.c4
        have e5 := SF.c5
        have e6 := SF.c6
        have e7 := SF.c7
        exact bodyPost_ret (v := .agg #[.int .i64 2, .int .i64 q, .int .i64 t, .int .i64 m, .int .i64 r, .int .i64 s, .int .i64 k, .slice ao9 xs.length cp9]) (by simp [results, Try.results115, go_sem, e0, e1, e2, e3, e4, e5, e6, e7]) rfl ⟨2, q, t, m, r, s, k, _, _, _, rfl, OF, by have := HL9.out; omega, SS, SG⟩
      · have hgt : (0 : Int) < ((k9 + 1 : Nat) : Int) := by omega
        have hw9 : IntKind.i64.wrap (((k9 + 1 : Nat) : Int) - 1) = (k9 : Int) := by rw [IntKind.wrap_i64]; omega
        go_wp2_with fail
        refine (next_any _ _ _ D8.out.src (by omega)).mono ?_
        rintro e w9 ⟨z, rfl, -, -, -, hs9, g9⟩
        have O9 := Lib.hid (O8.out.src g9 hpj)
        have D9 := Lib.hid (D8.out.next hs9 g9)
        clear hs9 g9 O8 D8
        go_wp2_with (at_builtin; refine append_one _ rfl (.tmp 28) (.tmp 31) rfl (J + 1) Try.underlying26 info64 _ _ rfl (O9.out.below ((Below.refl _ _).alloc (Nat.le_refl _) _)) _ _ _ rfl (new_cell rfl) hls (by have := D9.out.size; simp; omega) ?_; intro v10 w10 o10 b10; have O10 := Lib.hid o10; have D10 := Lib.hid ((D9.out.call ((Below.refl _ _).alloc (Nat.le_refl _) _)).app b10); clear o10 b10)
        go_roundw
        case rel => exact ⟨k9, xs ++ [z], by omega, by go_num, Lib.hid (by rw [List.length_append, List.length_singleton, HXL.out]; omega), O10, D10⟩
        case measure => simp [intOf]
  · rw [show ((3 : Int) != 0) = true from rfl]
    go_wp2_with fail
    refine (l04Draw_any _ _ D2.out.src).mono ?_
    rintro e w4 ⟨t, m, r, s, k, rfl, hs4, g4⟩
    have D4 := Lib.hid (D2.out.next hs4 g4)
    clear hs4 g4 D2
    have c2 := D4.out.var.c2
    have f2 := D4.out.var.f 2
    have c3 := D4.out.var.c3
    have f3 := D4.out.var.f 3
    have c4 := D4.out.var.c4
    have f4 := D4.out.var.f 4
    have c5 := D4.out.var.c5
    have f5 := D4.out.var.f 5
    have c6 := D4.out.var.c6
    have f6 := D4.out.var.f 6
    go_upto_region 4 with fail
    clear c2 c3 c4 c5 c6 f2 f3 f4 f5 f6
    first | change Code.wp _ _ _ _ (setFiveAt w4 J 2 t m r s k) | change Exit.then _ _ _ _ (setFiveAt w4 J 2 t m r s k)
    have D5 := Lib.hid (D4.out.five t m r s k)
    generalize setFiveAt w4 J 2 t m r s k = w5 at D5 ⊢
    clear D4
    have c0 := D5.out.var.c0
    have l0 := D5.out.var.lt
    go_wp2_with fail
    clear c0 l0
    refine (l06Data_any _ _).mono ?_
    rintro e w5' ⟨rfl, rfl⟩
    rw [show hasData 3 = false from rfl]
    have D6 := Lib.hid (D5.out.call ((Below.refl _ _).alloc (Nat.le_refl _) (.cells #[] 2)))
    have O6 : Hid (Own 2 (w5.alloc (.cells #[] 2)) (J + 1) (.slice (some ⟨w5.heap.size, 0, none⟩) 0 0) []) := Own.of_alloc_nil D5.out.size
    obtain ⟨b6, hb6⟩ : ∃ b, b = w5.heap.size := ⟨_, rfl⟩
    rw [← hb6] at O6 ⊢
    clear hb6 D5
    generalize w5.alloc (.cells #[] 2) = w6 at D6 O6 ⊢
    have c0 := D6.out.var.c0
    have c1 := D6.out.var.c1
    have f1 := D6.out.var.f 1
    go_upto_region 12 with fail
    clear c0 c1 f1
    have D7 := Lib.hid (D6.out.cell 1 (.int .i64 0) (D6.out.var.set1 0))
    have O7 := Lib.hid (O6.out.away (b := J) (Nat.lt_succ_self _) 1 (.int .i64 0))
    generalize World.setCell w6 ⟨J, 1, none⟩ (.int .i64 0) = w7 at D7 O7 ⊢
    clear D6 O6
    have c3 := D7.out.var.c3
    have f3 := D7.out.var.f 3
    go_upto_region 13 with fail
    clear c3 f3
    have D8 := Lib.hid (D7.out.cell 3 (.int .i64 0) (D7.out.var.set3 0))
    have O8 := Lib.hid (O7.out.away (b := J) (Nat.lt_succ_self _) 3 (.int .i64 0))
    generalize World.setCell w7 ⟨J, 3, none⟩ (.int .i64 0) = w8 at D8 O8 ⊢
    clear D7 O7
    go_wp2_with fail
    refine (next_any _ _ _ D8.out.src (by omega)).mono ?_
    rintro e w9 ⟨z, rfl, z0, z1, -, hs9, g9⟩
    have hpj : p < J + 1 := by have := D8.out.lt; omega
    have O9 := Lib.hid (O8.out.src g9 hpj)
    have D9 := Lib.hid (D8.out.next hs9 g9)
    clear hs9 g9 D8 O8
    replace z1 := z1 (by omega)
    have c6 := D9.out.var.c6
    have f6 := D9.out.var.f 6
    go_upto_region 14 with fail
    clear c6 f6
    obtain ⟨u, hu⟩ : ∃ u, wrap64 (2 ^ z.toNat) = u := ⟨_, rfl⟩
    rw [hu]
    clear hu z0 z1
    have D10 := Lib.hid (D9.out.cell 6 (.int .i64 u) (D9.out.var.set6 u))
    have O10 := Lib.hid (O9.out.away (b := J) (Nat.lt_succ_self _) 6 (.int .i64 u))
    generalize World.setCell w9 ⟨J, 6, none⟩ (.int .i64 u) = w10 at D10 O10 ⊢
    clear D9 O9
    have c0 := D10.out.var.c0
    have c1 := D10.out.var.c1
    have c2 := D10.out.var.c2
    have c3 := D10.out.var.c3
    have c4 := D10.out.var.c4
    have c5 := D10.out.var.c5
    have c6 := D10.out.var.c6
    have c7 := D10.out.var.c7
    have d0 := D10.out.res.c0
    have d1 := D10.out.res.c1
    have d2 := D10.out.res.c2
    have d3 := D10.out.res.c3
    have d4 := D10.out.res.c4
    have d5 := D10.out.res.c5
    have d6 := D10.out.res.c6
    have d7 := D10.out.res.c7
    have f0 := D10.out.res.f 0
    have f1 := D10.out.res.f 1
    have f2 := D10.out.res.f 2
    have f3 := D10.out.res.f 3
    have f4 := D10.out.res.f 4
    have f5 := D10.out.res.f 5
    have f6 := D10.out.res.f 6
    have f7 := D10.out.res.f 7
    have e1 : ((3 : Int) == 3) = true := by decide
    go_wp2_with fail
    clear c0 c1 c2 c3 c4 c5 c6 c7 d0 d1 d2 d3 d4 d5 d6 d7 f0 f1 f2 f3 f4 f5 f6 f7
    change bodyPost _ _ _ _ _ (setEight w10 w.heap.size 3 0 t 0 r s u (.slice (some ⟨b6, 0, none⟩) 0 0))
    obtain ⟨SF, SS, SG⟩ := D10.out.fin 3 0 t 0 r s u (.slice (some ⟨b6, 0, none⟩) 0 0)
    have OF := (O10.out.awayEight (b := w.heap.size) (by have := D10.out.lt; omega) 3 0 t 0 r s u (.slice (some ⟨b6, 0, none⟩) 0 0)).more (base' := w.heap.size) (by have := D10.out.lt; omega)
    generalize setEight w10 w.heap.size 3 0 t 0 r s u (.slice (some ⟨b6, 0, none⟩) 0 0) = wz at SF SS SG OF ⊢
    have e0 := SF.c0
    have e1 := SF.c1
    have e2 := SF.c2
    have e3 := SF.c3
    have e4 := SF.c4
    have e5 := SF.c5
    have e6 := SF.c6
    have e7 := SF.c7
    exact bodyPost_ret (v := .agg #[.int .i64 3, .int .i64 0, .int .i64 t, .int .i64 0, .int .i64 r, .int .i64 s, .int .i64 u, .slice (some ⟨b6, 0, none⟩) 0 0]) (by simp [results, Try.results115, go_sem, e0, e1, e2, e3, e4, e5, e6, e7]) rfl ⟨3, 0, t, 0, r, s, u, _, _, _, rfl, OF, by simp, SS, SG⟩
end Go.Proofs.Ytbdfnkhmnglpbaa
