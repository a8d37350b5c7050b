/-
  Chapter 4: AdvanceState on both sides.
-/
import Derived.Test.YtkidhilipeoliaaDoorC4b
namespace Go.Proofs.YtkidhilipeoliaaDoor
open Go.RowKit

/-- A state and a number handed back, all old memory as it was. -/
def GivesState2 (w : World) (q : Int × Int × Int × Int × Int × Int) (e : Ending) (w' : World) : Prop := e = .returned (.tuple #[.agg #[.int .i64 q.1, .int .i64 q.2.1, .int .i64 q.2.2.1, .int .i64 q.2.2.2.1, .int .i64 q.2.2.2.2.1], .int .i64 q.2.2.2.2.2]) ∧ Below w.heap.size w w'
/-- What AdvanceState is asked. -/
def mayAdvance (r s d slots rounds : Int) : Bool := inRange 0 65535 d && inRange 1 256 slots && inRange 1 16 rounds && decide (s < slots) && decide (r < rounds)
/-- What AdvanceState answers. -/
def advanced (t m r s k d slots rounds : Int) : Int × Int × Int × Int × Int × Int :=
  if isState t m r s k = false then (0, 0, 0, 0, 0, 1) else if mayAdvance r s d slots rounds = false then (0, 0, 0, 0, 0, 2) else ((t + d) % 65536, m, (stepRS slots rounds r s).1, (stepRS slots rounds r s).2, k, 0)
section
variable {t m r s k d slots rounds : Int}
theorem ad_1 (h : isState t m r s k = false) : advanced t m r s k d slots rounds = (0, 0, 0, 0, 0, 1) := by simp [advanced, h]
theorem ad_2 (h : isState t m r s k = true) (h2 : mayAdvance r s d slots rounds = false) : advanced t m r s k d slots rounds = (0, 0, 0, 0, 0, 2) := by simp [advanced, h, h2]
theorem ad_0 (h : isState t m r s k = true) (h2 : mayAdvance r s d slots rounds = true) : advanced t m r s k d slots rounds = ((t + d) % 65536, m, (stepRS slots rounds r s).1, (stepRS slots rounds r s).2, k, 0) := by simp [advanced, h, h2]
theorem may_iff : mayAdvance r s d slots rounds = true ↔ (0 ≤ d ∧ d ≤ 65535) ∧ (1 ≤ slots ∧ slots ≤ 256) ∧ (1 ≤ rounds ∧ rounds ≤ 16) ∧ s < slots ∧ r < rounds := by
  simp only [mayAdvance, inRange, Bool.and_eq_true, decide_eq_true_eq]
  constructor
  · rintro ⟨⟨⟨⟨a, b⟩, c⟩, d⟩, e⟩; exact ⟨a, b, c, d, e⟩
  · rintro ⟨a, b, c, d, e⟩; exact ⟨⟨⟨⟨a, b⟩, c⟩, d⟩, e⟩
theorem may_not (h : ¬ ((0 ≤ d ∧ d ≤ 65535) ∧ (1 ≤ slots ∧ slots ≤ 256) ∧ (1 ≤ rounds ∧ rounds ≤ 16) ∧ s < slots ∧ r < rounds)) : mayAdvance r s d slots rounds = false := by
  rcases hm : mayAdvance r s d slots rounds with _ | _
  · rfl
  · exact absurd (may_iff.1 hm) h
end

theorem below_two' {B : Nat} {a w w' : World} (h : Below B a w) (k : Below B w w') : Below B a w' := h.trans k
theorem zero_store {T : Nat} {w w1 : World} {t m r s k : Int} (h : Below ((w.alloc (.cells #[.int .i64 t, .int .i64 m, .int .i64 r, .int .i64 s, .int .i64 k] T)).alloc (.cells #[.int .i64 0, .int .i64 0, .int .i64 0, .int .i64 0, .int .i64 0] T)).heap.size ((w.alloc (.cells #[.int .i64 t, .int .i64 m, .int .i64 r, .int .i64 s, .int .i64 k] T)).alloc (.cells #[.int .i64 0, .int .i64 0, .int .i64 0, .int .i64 0, .int .i64 0] T)) w1) {w2 : World} (h2 : Below w.heap.size w1 w2) : Below w.heap.size w w2 := (below_box2 h).trans h2
/-- Five stores in a row. -/
def setFive (w : World) (b : Nat) (t m r s k : Int) : World := ((((w.setCell ⟨b, 0, none⟩ (.int .i64 t)).setCell ⟨b, 1, none⟩ (.int .i64 m)).setCell ⟨b, 2, none⟩ (.int .i64 r)).setCell ⟨b, 3, none⟩ (.int .i64 s)).setCell ⟨b, 4, none⟩ (.int .i64 k)
theorem below_five {B b : Nat} {w : World} (hb : B ≤ b) (t m r s k : Int) : Below B w (setFive w b t m r s k) := ((((((Below.refl _ _).setCell hb _).setCell hb _).setCell hb _).setCell hb _).setCell hb _)
theorem StateAt.five {T b : Nat} {w : World} {t m r s k : Int} (h : StateAt T w b t m r s k) (t' m' r' s' k' : Int) : StateAt T (setFive w b t' m' r' s' k') b t' m' r' s' k' :=
  ((((h.set0 t').set1 m').set2 r').set3 s').set4 k'

section
variable {t m r s k d slots rounds : Int}
end
end Go.Proofs.YtkidhilipeoliaaDoor
