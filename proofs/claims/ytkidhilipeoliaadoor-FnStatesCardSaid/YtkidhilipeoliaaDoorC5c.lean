/-
  Chapter 4: what FnStates says of a state's text and bits; six states in six blocks.
-/
import Derived.Test.YtkidhilipeoliaaDoorC4z
import Derived.Test.YtkidhilipeoliaaDoorC4g
import Derived.Test.YtkidhilipeoliaaDoorC4f
import Derived.Test.YtkidhilipeoliaaDoorC4n
namespace Go.Proofs.YtkidhilipeoliaaDoor
open Go.RowKit

/-- Six states in six blocks. -/
structure Six (T : Nat) (w : World) (A D E F G I : Nat) (t m r s k q0 q1 q2 q3 q4 y0 y1 y2 y3 y4 z0 z1 z2 z3 z4 : Int) : Prop where
  a : StateAt T w A t m r s k
  d : StateAt T w D q0 q1 q2 q3 q4
  e : StateAt T w E q0 q1 q2 q3 q4
  f : StateAt T w F y0 y1 y2 y3 y4
  g : StateAt T w G z0 z1 z2 z3 z4
  i : StateAt T w I z0 z1 z2 z3 z4
section
variable {T : Nat} {w w' : World} {A D E F G I : Nat} {t m r s k q0 q1 q2 q3 q4 y0 y1 y2 y3 y4 z0 z1 z2 z3 z4 : Int}
theorem Six.below (h : Six T w A D E F G I t m r s k q0 q1 q2 q3 q4 y0 y1 y2 y3 y4 z0 z1 z2 z3 z4) (b : Below w.heap.size w w') : Six T w' A D E F G I t m r s k q0 q1 q2 q3 q4 y0 y1 y2 y3 y4 z0 z1 z2 z3 z4 :=
  ⟨h.a.below b h.a.lt, h.d.below b h.d.lt, h.e.below b h.e.lt, h.f.below b h.f.lt, h.g.below b h.g.lt, h.i.below b h.i.lt⟩
theorem Six.cells (h : Six T w A D E F G I t m r s k q0 q1 q2 q3 q4 y0 y1 y2 y3 y4 z0 z1 z2 z3 z4) :
    w.cell? ⟨A, 0, none⟩ = some (.int .i64 t) ∧ w.cell? ⟨A, 1, none⟩ = some (.int .i64 m) ∧ w.cell? ⟨A, 2, none⟩ = some (.int .i64 r) ∧ w.cell? ⟨A, 3, none⟩ = some (.int .i64 s) ∧ w.cell? ⟨A, 4, none⟩ = some (.int .i64 k) ∧ w.cell? ⟨D, 0, none⟩ = some (.int .i64 q0) ∧ w.cell? ⟨D, 1, none⟩ = some (.int .i64 q1) ∧ w.cell? ⟨D, 2, none⟩ = some (.int .i64 q2) ∧ w.cell? ⟨D, 3, none⟩ = some (.int .i64 q3) ∧ w.cell? ⟨D, 4, none⟩ = some (.int .i64 q4) ∧ w.cell? ⟨E, 0, none⟩ = some (.int .i64 q0) ∧ w.cell? ⟨E, 1, none⟩ = some (.int .i64 q1) ∧ w.cell? ⟨E, 2, none⟩ = some (.int .i64 q2) ∧ w.cell? ⟨E, 3, none⟩ = some (.int .i64 q3) ∧ w.cell? ⟨E, 4, none⟩ = some (.int .i64 q4) ∧ w.cell? ⟨F, 0, none⟩ = some (.int .i64 y0) ∧ w.cell? ⟨F, 1, none⟩ = some (.int .i64 y1) ∧ w.cell? ⟨F, 2, none⟩ = some (.int .i64 y2) ∧ w.cell? ⟨F, 3, none⟩ = some (.int .i64 y3) ∧ w.cell? ⟨F, 4, none⟩ = some (.int .i64 y4) ∧ w.cell? ⟨G, 0, none⟩ = some (.int .i64 z0) ∧ w.cell? ⟨G, 1, none⟩ = some (.int .i64 z1) ∧ w.cell? ⟨G, 2, none⟩ = some (.int .i64 z2) ∧ w.cell? ⟨G, 3, none⟩ = some (.int .i64 z3) ∧ w.cell? ⟨G, 4, none⟩ = some (.int .i64 z4) ∧ w.cell? ⟨I, 0, none⟩ = some (.int .i64 z0) ∧ w.cell? ⟨I, 1, none⟩ = some (.int .i64 z1) ∧ w.cell? ⟨I, 2, none⟩ = some (.int .i64 z2) ∧ w.cell? ⟨I, 3, none⟩ = some (.int .i64 z3) ∧ w.cell? ⟨I, 4, none⟩ = some (.int .i64 z4) :=
  ⟨h.a.c0, h.a.c1, h.a.c2, h.a.c3, h.a.c4, h.d.c0, h.d.c1, h.d.c2, h.d.c3, h.d.c4, h.e.c0, h.e.c1, h.e.c2, h.e.c3, h.e.c4, h.f.c0, h.f.c1, h.f.c2, h.f.c3, h.f.c4, h.g.c0, h.g.c1, h.g.c2, h.g.c3, h.g.c4, h.i.c0, h.i.c1, h.i.c2, h.i.c3, h.i.c4⟩
end
/-- What the text of a state reads as. -/
theorem text_facts {t m r s k : Int} {u : ByteArray} (hu : textStr t m r s k = u) :
    (readState (nums u) = some (t, m, r, s, k) ∧ (u.toList == []) = false ∧ (u.toList != []) = true ∧ u ≠ ByteArray.empty) ∨ (readState (nums u) = none ∧ u = ByteArray.empty) := by
  cases h : isState t m r s k with
  | false =>
    rw [ts_1 h] at hu
    subst hu
    exact .inr ⟨read_nil, rfl⟩
  | true =>
    have hr : readState (nums u) = some (t, m, r, s, k) := by rw [← hu, nums_text t m r s k h, read_text h]
    have hne : u ≠ ByteArray.empty := fun e => by
      subst e
      rw [show nums ByteArray.empty = [] from rfl, read_nil] at hr
      cases hr
    have hl : (u.toList == []) = false := by
      cases hq : (u.toList == [])
      · rfl
      · exact absurd (Lib.bytes_beq_iff u ByteArray.empty |>.1 (by rw [ByteArray.toList_eq ByteArray.empty]; exact hq)) hne
    exact .inl ⟨hr, hl, by simp [bne, hl], hne⟩
theorem bits_facts {t m r s k : Int} {bl : List Int} (h : stateToBits t m r s k = (bl, 0)) : stateFrom bl = (t, m, r, s, k, 0) := by
  cases hs : isState t m r s k with
  | false => rw [sb_1 hs] at h; cases h
  | true =>
    rw [sb_0 hs] at h
    simp only [Prod.mk.injEq, and_true] at h
    subst h
    have hl := stateBits_len t m r s k
    obtain ⟨h1, h2, h3, h4, h5⟩ := stateBits_parts hs
    rw [sf_0 (isBits_iff.2 ⟨by omega, stateBits_bits t m r s k⟩) hl, h1, h2, h3, h4, h5]
end Go.Proofs.YtkidhilipeoliaaDoor
