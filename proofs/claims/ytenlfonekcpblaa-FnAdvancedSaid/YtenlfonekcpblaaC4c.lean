/-
  Chapter 4: AdvanceState on both sides.
-/
import Derived.Test.YtenlfonekcpblaaC4b
namespace Go.Proofs.Ytenlfonekcpblaa
open Go.RowKit

/-- A state and a number handed back, all old memory as it was. -/
def GivesState2 (w : World) (q : Int × Int × Int × Int × Int × Int) (e : Ending) (w' : World) : Prop := e = .returned (.tuple #[.agg #[.int .i64 q.1, .int .i64 q.2.1, .int .i64 q.2.2.1, .int .i64 q.2.2.2.1, .int .i64 q.2.2.2.2.1], .int .i64 q.2.2.2.2.2]) ∧ Below w.heap.size w w'
/-- What AdvanceState is asked. -/
def mayAdvance (r s d slots rounds : Int) : Bool := inRange 0 65535 d && inRange 1 256 slots && inRange 1 16 rounds && decide (s < slots) && decide (r < rounds)
/-- What AdvanceState answers. -/
def advanced (t m r s k d slots rounds : Int) : Int × Int × Int × Int × Int × Int :=
  if isState t m r s k = false then (0, 0, 0, 0, 0, 1) else if mayAdvance r s d slots rounds = false then (0, 0, 0, 0, 0, 2) else ((t + d) % 65536, m, (stepRS slots rounds r s).1, (stepRS slots rounds r s).2, k, 0)
section
variable {t m r s k d slots rounds : Int}
theorem ad_1 (h : isState t m r s k = false) : advanced t m r s k d slots rounds = (0, 0, 0, 0, 0, 1) := by simp [advanced, h]
theorem ad_2 (h : isState t m r s k = true) (h2 : mayAdvance r s d slots rounds = false) : advanced t m r s k d slots rounds = (0, 0, 0, 0, 0, 2) := by simp [advanced, h, h2]
theorem ad_0 (h : isState t m r s k = true) (h2 : mayAdvance r s d slots rounds = true) : advanced t m r s k d slots rounds = ((t + d) % 65536, m, (stepRS slots rounds r s).1, (stepRS slots rounds r s).2, k, 0) := by simp [advanced, h, h2]
theorem may_iff : mayAdvance r s d slots rounds = true ↔ (0 ≤ d ∧ d ≤ 65535) ∧ (1 ≤ slots ∧ slots ≤ 256) ∧ (1 ≤ rounds ∧ rounds ≤ 16) ∧ s < slots ∧ r < rounds := by
  simp only [mayAdvance, inRange, Bool.and_eq_true, decide_eq_true_eq]
  constructor
  · rintro ⟨⟨⟨⟨a, b⟩, c⟩, d⟩, e⟩; exact ⟨a, b, c, d, e⟩
  · rintro ⟨a, b, c, d, e⟩; exact ⟨⟨⟨⟨a, b⟩, c⟩, d⟩, e⟩
theorem may_not (h : ¬ ((0 ≤ d ∧ d ≤ 65535) ∧ (1 ≤ slots ∧ slots ≤ 256) ∧ (1 ≤ rounds ∧ rounds ≤ 16) ∧ s < slots ∧ r < rounds)) : mayAdvance r s d slots rounds = false := by
  rcases hm : mayAdvance r s d slots rounds with _ | _
  · rfl
  · exact absurd (may_iff.1 hm) h
end

theorem below_two' {B : Nat} {a w w' : World} (h : Below B a w) (k : Below B w w') : Below B a w' := h.trans k
theorem zero_store {T : Nat} {w w1 : World} {t m r s k : Int} (h : Below ((w.alloc (.cells #[.int .i64 t, .int .i64 m, .int .i64 r, .int .i64 s, .int .i64 k] T)).alloc (.cells #[.int .i64 0, .int .i64 0, .int .i64 0, .int .i64 0, .int .i64 0] T)).heap.size ((w.alloc (.cells #[.int .i64 t, .int .i64 m, .int .i64 r, .int .i64 s, .int .i64 k] T)).alloc (.cells #[.int .i64 0, .int .i64 0, .int .i64 0, .int .i64 0, .int .i64 0] T)) w1) {w2 : World} (h2 : Below w.heap.size w1 w2) : Below w.heap.size w w2 := (below_box2 h).trans h2
/-- Five stores in a row. -/
def setFive (w : World) (b : Nat) (t m r s k : Int) : World := ((((w.setCell ⟨b, 0, none⟩ (.int .i64 t)).setCell ⟨b, 1, none⟩ (.int .i64 m)).setCell ⟨b, 2, none⟩ (.int .i64 r)).setCell ⟨b, 3, none⟩ (.int .i64 s)).setCell ⟨b, 4, none⟩ (.int .i64 k)
theorem below_five {B b : Nat} {w : World} (hb : B ≤ b) (t m r s k : Int) : Below B w (setFive w b t m r s k) := ((((((Below.refl _ _).setCell hb _).setCell hb _).setCell hb _).setCell hb _).setCell hb _)
theorem StateAt.five {T b : Nat} {w : World} {t m r s k : Int} (h : StateAt T w b t m r s k) (t' m' r' s' k' : Int) : StateAt T (setFive w b t' m' r' s' k') b t' m' r' s' k' :=
  ((((h.set0 t').set1 m').set2 r').set3 s').set4 k'

section
variable {t m r s k d slots rounds : Int}
theorem advanceState_good (hA : isState t m r s k = true) (h0 : 0 ≤ d ∧ d ≤ 65535) (h2 : slots ≤ 256) (h3 : rounds ≤ 16) (h4 : s < slots) (h5 : r < rounds) (w : World) :
    Calls Try.prog 13 #[.agg #[.int .i64 t, .int .i64 m, .int .i64 r, .int .i64 s, .int .i64 k], .int .i64 d, .int .i64 slots, .int .i64 rounds] w (GivesState2 w (advanced t m r s k d slots rounds)) := by
  obtain ⟨⟨t0, t1⟩, -, ⟨r0, r1⟩, ⟨s0, s1⟩, -⟩ := isState_iff.1 hA
  rw [ad_0 hA (may_iff.2 ⟨by omega, by omega, by omega, by omega, by omega⟩)]
  have HA := Lib.hid hA; clear hA
  obtain ⟨h0, h1⟩ := h0
  go_enter Try.func13, Try.ntmps13
  go_wp2_with fail
  refine (isState_any _ _ _ _ _ _).mono ?_
  rintro e w1 ⟨rfl, b1⟩
  rw [HA.out]
  obtain ⟨S1, S2⟩ := state_new2 b1
  have HZ := Lib.hid b1; clear b1
  have HS := Lib.hid S2; clear S2
  have d0 := S1.c0
  have d2 := S1.c2
  have d3 := S1.c3
  have f0 := S1.f 0
  go_upto_region 8 with fail
  have T1 := S1.set0 ((t + d) % 65536)
  have Z1 := StateAt.other (c := w.heap.size) (i := 0) (v := .int .i64 ((t + d) % 65536)) HS.out (by omega)
  have B1 := below_two' (below_box2 HZ.out) ((Below.refl w.heap.size w1).setCell (p := ⟨w.heap.size, 0, none⟩) (Nat.le_refl _) (.int .i64 ((t + d) % 65536)))
  generalize w1.setCell ⟨w.heap.size, 0, none⟩ (.int .i64 ((t + d) % 65536)) = w2 at T1 Z1 B1 ⊢
  clear S1 d0 d2 d3 f0 HS HZ h0 h1 h2 h3
  have d3 := T1.c3
  have f3 := T1.f 3
  go_upto_region 9 with fail
  clear d3 f3
  have hc : (s + 1) % slots = if s + 1 = slots then 0 else s + 1 := by
    split
    · rename_i e; rw [e, Int.emod_self]
    · exact Int.emod_eq_of_lt (by omega) (by omega)
  obtain ⟨q, hq⟩ : ∃ q, (s + 1) % slots = q := ⟨_, rfl⟩
  rw [hq] at hc ⊢
  have T2 := T1.set3 q
  have Z2 := StateAt.other (c := w.heap.size) (i := 3) (v := .int .i64 q) Z1 (by omega)
  have B2 := below_two' B1 ((Below.refl w.heap.size w2).setCell (p := ⟨w.heap.size, 3, none⟩) (Nat.le_refl _) (.int .i64 q))
  generalize w2.setCell ⟨w.heap.size, 3, none⟩ (.int .i64 q) = w3 at T2 Z2 B2 ⊢
  clear hq T1 Z1 B1
  by_cases hs : s + 1 = slots
  · rw [if_pos hs] at hc
    subst hc
    have hst : stepRS slots rounds r s = ((r + 1) % rounds, 0) := by unfold stepRS; rw [if_pos hs]
    have HST := Lib.hid hst; clear hst hs
    have d2 := T2.c2
    have d3 := T2.c3
    have f2 := T2.f 2
    go_upto_region 11 with fail
    clear d2 d3 f2
    have T3 := T2.set2 ((r + 1) % rounds)
    have Z3 := StateAt.other (c := w.heap.size) (i := 2) (v := .int .i64 ((r + 1) % rounds)) Z2 (by omega)
    have B3 := below_two' B2 ((Below.refl w.heap.size w3).setCell (p := ⟨w.heap.size, 2, none⟩) (Nat.le_refl _) (.int .i64 ((r + 1) % rounds)))
    generalize w3.setCell ⟨w.heap.size, 2, none⟩ (.int .i64 ((r + 1) % rounds)) = w4 at T3 Z3 B3 ⊢
    clear T2 Z2 B2
    have c0 := T3.c0
    have c1 := T3.c1
    have c2 := T3.c2
    have c3 := T3.c3
    have c4 := T3.c4
    have g0 := Z3.c0
    have g1 := Z3.c1
    have g2 := Z3.c2
    have g3 := Z3.c3
    have g4 := Z3.c4
    have f0 := Z3.f 0
    have f1 := Z3.f 1
    have f2 := Z3.f 2
    have f3 := Z3.f 3
    have f4 := Z3.f 4
    go_wp2_with fail
    clear c0 c1 c2 c3 c4 f0 f1 f2 f3 f4 g0 g1 g2 g3 g4
    change bodyPost _ _ _ _ _ (setFive w4 (w.heap.size + 1) ((t + d) % 65536) m ((r + 1) % rounds) 0 k)
    have SF := StateAt.five (Z3) ((t + d) % 65536) m ((r + 1) % rounds) 0 k
    have BF := below_two' (B3) (below_five (B := w.heap.size) (w := w4) (b := w.heap.size + 1) (by omega) ((t + d) % 65536) m ((r + 1) % rounds) 0 k)
    generalize setFive w4 (w.heap.size + 1) ((t + d) % 65536) m ((r + 1) % rounds) 0 k = wz at SF BF ⊢
    have e0 := SF.c0
    have e1 := SF.c1
    have e2 := SF.c2
    have e3 := SF.c3
    have e4 := SF.c4
    exact bodyPost_ret (v := .tuple #[.agg #[.int .i64 ((t + d) % 65536), .int .i64 m, .int .i64 ((r + 1) % rounds), .int .i64 0, .int .i64 k], .int .i64 0]) (by simp [results, Try.results13, go_sem, e0, e1, e2, e3, e4]) rfl ⟨by simp only [HST.out], BF⟩
  · rw [if_neg hs] at hc
    have hst : stepRS slots rounds r s = (r, s + 1) := by unfold stepRS; rw [if_neg hs]
    rw [← hc] at hst
    have HST := Lib.hid hst
    have hq0 : (q == 0) = false := by rw [hc]; simp; omega
    clear hst hs hc
    have c0 := T2.c0
    have c1 := T2.c1
    have c2 := T2.c2
    have c3 := T2.c3
    have c4 := T2.c4
    have g0 := Z2.c0
    have g1 := Z2.c1
    have g2 := Z2.c2
    have g3 := Z2.c3
    have g4 := Z2.c4
    have f0 := Z2.f 0
    have f1 := Z2.f 1
    have f2 := Z2.f 2
    have f3 := Z2.f 3
    have f4 := Z2.f 4
    go_wp2_with fail
    clear c0 c1 c2 c3 c4 f0 f1 f2 f3 f4 g0 g1 g2 g3 g4
    change bodyPost _ _ _ _ _ (setFive w3 (w.heap.size + 1) ((t + d) % 65536) m r q k)
    have SF := StateAt.five (Z2) ((t + d) % 65536) m r q k
    have BF := below_two' (B2) (below_five (B := w.heap.size) (w := w3) (b := w.heap.size + 1) (by omega) ((t + d) % 65536) m r q k)
    generalize setFive w3 (w.heap.size + 1) ((t + d) % 65536) m r q k = wz at SF BF ⊢
    have e0 := SF.c0
    have e1 := SF.c1
    have e2 := SF.c2
    have e3 := SF.c3
    have e4 := SF.c4
    exact bodyPost_ret (v := .tuple #[.agg #[.int .i64 ((t + d) % 65536), .int .i64 m, .int .i64 r, .int .i64 q, .int .i64 k], .int .i64 0]) (by simp [results, Try.results13, go_sem, e0, e1, e2, e3, e4]) rfl ⟨by simp only [HST.out], BF⟩
end
set_option maxHeartbeats 1000000 in
theorem advanceState_any (t m r s k d slots rounds : Int) (w : World) :
    Calls Try.prog 13 #[.agg #[.int .i64 t, .int .i64 m, .int .i64 r, .int .i64 s, .int .i64 k], .int .i64 d, .int .i64 slots, .int .i64 rounds] w (GivesState2 w (advanced t m r s k d slots rounds)) := by
  rcases hA : isState t m r s k with _ | _
  · rw [ad_1 hA]
    have HA := Lib.hid hA; clear hA
    go_enter Try.func13, Try.ntmps13
    go_wp2_with fail
    refine (isState_any _ _ _ _ _ _).mono ?_
    rintro e w1 ⟨rfl, b1⟩
    rw [HA.out]
    obtain ⟨S1, S2⟩ := state_new2 b1
    have HZ := Lib.hid b1; clear b1
    have c0 := S2.c0
    have c1 := S2.c1
    have c2 := S2.c2
    have c3 := S2.c3
    have c4 := S2.c4
    have f0 := S2.f 0
    have f1 := S2.f 1
    have f2 := S2.f 2
    have f3 := S2.f 3
    have f4 := S2.f 4
    have HS := Lib.hid S2; clear S1 S2
    go_wp2_with fail
    clear c0 c1 c2 c3 c4 f0 f1 f2 f3 f4
    change bodyPost _ _ _ _ _ (setFive w1 (w.heap.size + 1) 0 0 0 0 0)
    have SF := StateAt.five (HS.out) 0 0 0 0 0
    have BF := below_two' (below_box2 HZ.out) (below_five (B := w.heap.size) (w := w1) (b := w.heap.size + 1) (by omega) 0 0 0 0 0)
    generalize setFive w1 (w.heap.size + 1) 0 0 0 0 0 = wz at SF BF ⊢
    have e0 := SF.c0
    have e1 := SF.c1
    have e2 := SF.c2
    have e3 := SF.c3
    have e4 := SF.c4
    exact bodyPost_ret (v := .tuple #[.agg #[.int .i64 0, .int .i64 0, .int .i64 0, .int .i64 0, .int .i64 0], .int .i64 1]) (by simp [results, Try.results13, go_sem, e0, e1, e2, e3, e4]) rfl ⟨rfl, BF⟩
  have HA := Lib.hid hA
  by_cases h0 : d < 0
  · rw [ad_2 hA (may_not (by omega))]
    clear hA
    go_enter Try.func13, Try.ntmps13
    go_wp2_with fail
    refine (isState_any _ _ _ _ _ _).mono ?_
    rintro e w1 ⟨rfl, b1⟩
    rw [HA.out]
    obtain ⟨S1, S2⟩ := state_new2 b1
    have HZ := Lib.hid b1; clear b1
    have c0 := S2.c0
    have c1 := S2.c1
    have c2 := S2.c2
    have c3 := S2.c3
    have c4 := S2.c4
    have f0 := S2.f 0
    have f1 := S2.f 1
    have f2 := S2.f 2
    have f3 := S2.f 3
    have f4 := S2.f 4
    have HS := Lib.hid S2; clear S1 S2
    go_wp2_with fail
    clear c0 c1 c2 c3 c4 f0 f1 f2 f3 f4
    change bodyPost _ _ _ _ _ (setFive w1 (w.heap.size + 1) 0 0 0 0 0)
    have SF := StateAt.five (HS.out) 0 0 0 0 0
    have BF := below_two' (below_box2 HZ.out) (below_five (B := w.heap.size) (w := w1) (b := w.heap.size + 1) (by omega) 0 0 0 0 0)
    generalize setFive w1 (w.heap.size + 1) 0 0 0 0 0 = wz at SF BF ⊢
    have e0 := SF.c0
    have e1 := SF.c1
    have e2 := SF.c2
    have e3 := SF.c3
    have e4 := SF.c4
    exact bodyPost_ret (v := .tuple #[.agg #[.int .i64 0, .int .i64 0, .int .i64 0, .int .i64 0, .int .i64 0], .int .i64 2]) (by simp [results, Try.results13, go_sem, e0, e1, e2, e3, e4]) rfl ⟨rfl, BF⟩
  by_cases h1 : 65535 < d
  · rw [ad_2 hA (may_not (by omega))]
    clear hA
    go_enter Try.func13, Try.ntmps13
    go_wp2_with fail
    refine (isState_any _ _ _ _ _ _).mono ?_
    rintro e w1 ⟨rfl, b1⟩
    rw [HA.out]
    obtain ⟨S1, S2⟩ := state_new2 b1
    have HZ := Lib.hid b1; clear b1
    have c0 := S2.c0
    have c1 := S2.c1
    have c2 := S2.c2
    have c3 := S2.c3
    have c4 := S2.c4
    have f0 := S2.f 0
    have f1 := S2.f 1
    have f2 := S2.f 2
    have f3 := S2.f 3
    have f4 := S2.f 4
    have HS := Lib.hid S2; clear S1 S2
    go_wp2_with fail
    clear c0 c1 c2 c3 c4 f0 f1 f2 f3 f4
    change bodyPost _ _ _ _ _ (setFive w1 (w.heap.size + 1) 0 0 0 0 0)
    have SF := StateAt.five (HS.out) 0 0 0 0 0
    have BF := below_two' (below_box2 HZ.out) (below_five (B := w.heap.size) (w := w1) (b := w.heap.size + 1) (by omega) 0 0 0 0 0)
    generalize setFive w1 (w.heap.size + 1) 0 0 0 0 0 = wz at SF BF ⊢
    have e0 := SF.c0
    have e1 := SF.c1
    have e2 := SF.c2
    have e3 := SF.c3
    have e4 := SF.c4
    exact bodyPost_ret (v := .tuple #[.agg #[.int .i64 0, .int .i64 0, .int .i64 0, .int .i64 0, .int .i64 0], .int .i64 2]) (by simp [results, Try.results13, go_sem, e0, e1, e2, e3, e4]) rfl ⟨rfl, BF⟩
  by_cases h2 : 256 < slots
  · rw [ad_2 hA (may_not (by omega))]
    clear hA
    go_enter Try.func13, Try.ntmps13
    go_wp2_with fail
    refine (isState_any _ _ _ _ _ _).mono ?_
    rintro e w1 ⟨rfl, b1⟩
    rw [HA.out]
    obtain ⟨S1, S2⟩ := state_new2 b1
    have HZ := Lib.hid b1; clear b1
    have c0 := S2.c0
    have c1 := S2.c1
    have c2 := S2.c2
    have c3 := S2.c3
    have c4 := S2.c4
    have f0 := S2.f 0
    have f1 := S2.f 1
    have f2 := S2.f 2
    have f3 := S2.f 3
    have f4 := S2.f 4
    have HS := Lib.hid S2; clear S1 S2
    go_wp2_with fail
    clear c0 c1 c2 c3 c4 f0 f1 f2 f3 f4
    change bodyPost _ _ _ _ _ (setFive w1 (w.heap.size + 1) 0 0 0 0 0)
    have SF := StateAt.five (HS.out) 0 0 0 0 0
    have BF := below_two' (below_box2 HZ.out) (below_five (B := w.heap.size) (w := w1) (b := w.heap.size + 1) (by omega) 0 0 0 0 0)
    generalize setFive w1 (w.heap.size + 1) 0 0 0 0 0 = wz at SF BF ⊢
    have e0 := SF.c0
    have e1 := SF.c1
    have e2 := SF.c2
    have e3 := SF.c3
    have e4 := SF.c4
    exact bodyPost_ret (v := .tuple #[.agg #[.int .i64 0, .int .i64 0, .int .i64 0, .int .i64 0, .int .i64 0], .int .i64 2]) (by simp [results, Try.results13, go_sem, e0, e1, e2, e3, e4]) rfl ⟨rfl, BF⟩
  by_cases h3 : 16 < rounds
  · rw [ad_2 hA (may_not (by omega))]
    clear hA
    go_enter Try.func13, Try.ntmps13
    go_wp2_with fail
    refine (isState_any _ _ _ _ _ _).mono ?_
    rintro e w1 ⟨rfl, b1⟩
    rw [HA.out]
    obtain ⟨S1, S2⟩ := state_new2 b1
    have HZ := Lib.hid b1; clear b1
    have c0 := S2.c0
    have c1 := S2.c1
    have c2 := S2.c2
    have c3 := S2.c3
    have c4 := S2.c4
    have f0 := S2.f 0
    have f1 := S2.f 1
    have f2 := S2.f 2
    have f3 := S2.f 3
    have f4 := S2.f 4
    have HS := Lib.hid S2; clear S1 S2
    go_wp2_with fail
    clear c0 c1 c2 c3 c4 f0 f1 f2 f3 f4
    change bodyPost _ _ _ _ _ (setFive w1 (w.heap.size + 1) 0 0 0 0 0)
    have SF := StateAt.five (HS.out) 0 0 0 0 0
    have BF := below_two' (below_box2 HZ.out) (below_five (B := w.heap.size) (w := w1) (b := w.heap.size + 1) (by omega) 0 0 0 0 0)
    generalize setFive w1 (w.heap.size + 1) 0 0 0 0 0 = wz at SF BF ⊢
    have e0 := SF.c0
    have e1 := SF.c1
    have e2 := SF.c2
    have e3 := SF.c3
    have e4 := SF.c4
    exact bodyPost_ret (v := .tuple #[.agg #[.int .i64 0, .int .i64 0, .int .i64 0, .int .i64 0, .int .i64 0], .int .i64 2]) (by simp [results, Try.results13, go_sem, e0, e1, e2, e3, e4]) rfl ⟨rfl, BF⟩
  by_cases h4 : slots ≤ s
  · rw [ad_2 hA (may_not (by omega))]
    clear hA
    go_enter Try.func13, Try.ntmps13
    go_wp2_with fail
    refine (isState_any _ _ _ _ _ _).mono ?_
    rintro e w1 ⟨rfl, b1⟩
    rw [HA.out]
    obtain ⟨S1, S2⟩ := state_new2 b1
    have HZ := Lib.hid b1; clear b1
    have d2 := S1.c2
    have d3 := S1.c3
    have c0 := S2.c0
    have c1 := S2.c1
    have c2 := S2.c2
    have c3 := S2.c3
    have c4 := S2.c4
    have f0 := S2.f 0
    have f1 := S2.f 1
    have f2 := S2.f 2
    have f3 := S2.f 3
    have f4 := S2.f 4
    have HS := Lib.hid S2; clear S1 S2
    go_wp2_with fail
    clear c0 c1 c2 c3 c4 f0 f1 f2 f3 f4 d2 d3
    change bodyPost _ _ _ _ _ (setFive w1 (w.heap.size + 1) 0 0 0 0 0)
    have SF := StateAt.five (HS.out) 0 0 0 0 0
    have BF := below_two' (below_box2 HZ.out) (below_five (B := w.heap.size) (w := w1) (b := w.heap.size + 1) (by omega) 0 0 0 0 0)
    generalize setFive w1 (w.heap.size + 1) 0 0 0 0 0 = wz at SF BF ⊢
    have e0 := SF.c0
    have e1 := SF.c1
    have e2 := SF.c2
    have e3 := SF.c3
    have e4 := SF.c4
    exact bodyPost_ret (v := .tuple #[.agg #[.int .i64 0, .int .i64 0, .int .i64 0, .int .i64 0, .int .i64 0], .int .i64 2]) (by simp [results, Try.results13, go_sem, e0, e1, e2, e3, e4]) rfl ⟨rfl, BF⟩
  by_cases h5 : rounds ≤ r
  · rw [ad_2 hA (may_not (by omega))]
    clear hA
    go_enter Try.func13, Try.ntmps13
    go_wp2_with fail
    refine (isState_any _ _ _ _ _ _).mono ?_
    rintro e w1 ⟨rfl, b1⟩
    rw [HA.out]
    obtain ⟨S1, S2⟩ := state_new2 b1
    have HZ := Lib.hid b1; clear b1
    have d2 := S1.c2
    have d3 := S1.c3
    have c0 := S2.c0
    have c1 := S2.c1
    have c2 := S2.c2
    have c3 := S2.c3
    have c4 := S2.c4
    have f0 := S2.f 0
    have f1 := S2.f 1
    have f2 := S2.f 2
    have f3 := S2.f 3
    have f4 := S2.f 4
    have HS := Lib.hid S2; clear S1 S2
    go_wp2_with fail
    clear c0 c1 c2 c3 c4 f0 f1 f2 f3 f4 d2 d3
    change bodyPost _ _ _ _ _ (setFive w1 (w.heap.size + 1) 0 0 0 0 0)
    have SF := StateAt.five (HS.out) 0 0 0 0 0
    have BF := below_two' (below_box2 HZ.out) (below_five (B := w.heap.size) (w := w1) (b := w.heap.size + 1) (by omega) 0 0 0 0 0)
    generalize setFive w1 (w.heap.size + 1) 0 0 0 0 0 = wz at SF BF ⊢
    have e0 := SF.c0
    have e1 := SF.c1
    have e2 := SF.c2
    have e3 := SF.c3
    have e4 := SF.c4
    exact bodyPost_ret (v := .tuple #[.agg #[.int .i64 0, .int .i64 0, .int .i64 0, .int .i64 0, .int .i64 0], .int .i64 2]) (by simp [results, Try.results13, go_sem, e0, e1, e2, e3, e4]) rfl ⟨rfl, BF⟩
  exact advanceState_good hA ⟨by omega, by omega⟩ (by omega) (by omega) (by omega) (by omega) w
end Go.Proofs.Ytenlfonekcpblaa
