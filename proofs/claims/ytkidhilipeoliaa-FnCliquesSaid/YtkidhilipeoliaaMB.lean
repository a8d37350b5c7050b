/-
  Chapter 5: DrawIsMajority (its table look-ups draw their order).
-/
import Derived.Test.YtkidhilipeoliaaM8
import Derived.Test.YtkidhilipeoliaaInv
import Derived.Deep.Cut
namespace Go.Proofs.Ytkidhilipeoliaa
open Go.RowKit

/-- What a draw of two numbers leaves. -/
def DrawnII (w : World) (e : Ending) (w' : World) : Prop := ∃ a b : Int, e = .returned (.tuple #[.int .i64 a, .int .i64 b]) ∧ Below w.heap.size w w'

/-- Block b, laid since w0, holds the table cs. -/
def TabW (E : Nat) (w0 w : World) (cs : Array Value) (b : Nat) : Prop := w0.heap.size ≤ b ∧ w.heap[b]? = some (.cells cs E (0, 0))
def c4 : Array Value := #[.int .i64 (-1), .int .i64 0, .int .i64 256, .int .i64 257]
def c3 : Array Value := #[.int .i64 (-1), .int .i64 0, .int .i64 256]
theorem c4_at (z : Nat) (h : z < 4) : ∃ x : Int, c4[z]? = some (.int .i64 x) := by
  match z, h with
  | 0, _ | 1, _ | 2, _ | 3, _ => exact ⟨_, rfl⟩
theorem c3_at (z : Nat) (h : z < 3) : ∃ x : Int, c3[z]? = some (.int .i64 x) := by
  match z, h with
  | 0, _ | 1, _ | 2, _ => exact ⟨_, rfl⟩
theorem TabW.alloc {E b : Nat} {w0 w : World} {cs : Array Value} (h : TabW E w0 w cs b) (o : Obj) : TabW E w0 (w.alloc o) cs b :=
  ⟨h.1, (((Below.refl w.heap.size w).alloc (Nat.le_refl _) o).block b (Array.getElem?_eq_some_iff.1 h.2).1).trans h.2⟩
theorem TabW.grown {E b p : Nat} {w0 w w' : World} {cs : Array Value} (h : TabW E w0 w cs b) (g : w.grownBy w' (some p)) (hp : p < w0.heap.size) : TabW E w0 w' cs b :=
  ⟨h.1, (g.block b (Array.getElem?_eq_some_iff.1 h.2).1 (by simp; have := h.1; omega)).trans h.2⟩
theorem TabW.cell {E b : Nat} {w0 w : World} {cs : Array Value} (h : TabW E w0 w cs b) (z : Nat) : w.cell? ⟨b, z, none⟩ = cs[z]? := cell_of_row w b z _ _ (0, 0) h.2
/-- What stands in the slots, as far as the operations have been done. -/
structure MajI (E T p : Nat) (w0 : World) (l : Array Bool) (w : World) (v2 v3 v10 v11 v12 v13 v14 v15 v16 v17 v18 v19 : Value) : Prop where
  size : l.size = 12
  src : Src T w p
  grown : w0.grownBy w (some p)
  f0 : fl l 0 = true → ∃ b : Nat, v10 = .slice (some ⟨b, 0, none⟩) 4 4 ∧ TabW E w0 w c4 b
  f1 : fl l 1 = true → v11 = .pointer (some ⟨p, 0, none⟩)
  f2 : fl l 2 = true → ∃ z : Nat, v12 = .int .i64 z ∧ z < 4
  f3 : fl l 3 = true → ∃ b z : Nat, v13 = .pointer (some ⟨b, z, none⟩) ∧ TabW E w0 w c4 b ∧ z < 4
  f4 : fl l 4 = true → ∃ x : Int, v14 = .int .i64 x
  f5 : fl l 5 = true → ∃ b : Nat, v15 = .slice (some ⟨b, 0, none⟩) 3 3 ∧ TabW E w0 w c3 b
  f6 : fl l 6 = true → v16 = .pointer (some ⟨p, 0, none⟩)
  f7 : fl l 7 = true → ∃ z : Nat, v17 = .int .i64 z ∧ z < 3
  f8 : fl l 8 = true → ∃ b z : Nat, v18 = .pointer (some ⟨b, z, none⟩) ∧ TabW E w0 w c3 b ∧ z < 3
  f9 : fl l 9 = true → ∃ x : Int, v19 = .int .i64 x
  f10 : fl l 10 = true → ∃ x : Int, v2 = .int .i64 x
  f11 : fl l 11 = true → ∃ x : Int, v3 = .int .i64 x
theorem MajI.move {E T p : Nat} {w0 w w' : World} {l : Array Bool} {v2 v3 v10 v11 v12 v13 v14 v15 v16 v17 v18 v19 : Value} (h : MajI E T p w0 l w v2 v3 v10 v11 v12 v13 v14 v15 v16 v17 v18 v19) (hs : Src T w' p) (hg : w0.grownBy w' (some p)) (ht : ∀ cs b, TabW E w0 w cs b → TabW E w0 w' cs b) : MajI E T p w0 l w' v2 v3 v10 v11 v12 v13 v14 v15 v16 v17 v18 v19 where
  size := h.size
  src := hs
  grown := hg
  f0 := fun hf => by obtain ⟨b, e, t⟩ := h.f0 hf; exact ⟨b, e, ht _ _ t⟩
  f1 := h.f1
  f2 := h.f2
  f3 := fun hf => by obtain ⟨b, z, e, t, hz⟩ := h.f3 hf; exact ⟨b, z, e, ht _ _ t, hz⟩
  f4 := h.f4
  f5 := fun hf => by obtain ⟨b, e, t⟩ := h.f5 hf; exact ⟨b, e, ht _ _ t⟩
  f6 := h.f6
  f7 := h.f7
  f8 := fun hf => by obtain ⟨b, z, e, t, hz⟩ := h.f8 hf; exact ⟨b, z, e, ht _ _ t, hz⟩
  f9 := h.f9
  f10 := h.f10
  f11 := h.f11
theorem MajI.s0 {E T p : Nat} {w0 w : World} {l : Array Bool} {v2 v3 v10 v11 v12 v13 v14 v15 v16 v17 v18 v19 x : Value} (h : MajI E T p w0 l w v2 v3 v10 v11 v12 v13 v14 v15 v16 v17 v18 v19) (ho : l.getD 0 true = false) (hx : ∃ b : Nat, x = .slice (some ⟨b, 0, none⟩) 4 4 ∧ TabW E w0 w c4 b) : MajI E T p w0 (l.setIfInBounds 0 true) w v2 v3 x v11 v12 v13 v14 v15 v16 v17 v18 v19 where
  size := by rw [Array.size_setIfInBounds]; exact h.size
  src := h.src
  grown := h.grown
  f0 := fun _ => hx
  f1 := fun hf => h.f1 (by rwa [fl_set ho, if_neg (by decide)] at hf)
  f2 := fun hf => h.f2 (by rwa [fl_set ho, if_neg (by decide)] at hf)
  f3 := fun hf => h.f3 (by rwa [fl_set ho, if_neg (by decide)] at hf)
  f4 := fun hf => h.f4 (by rwa [fl_set ho, if_neg (by decide)] at hf)
  f5 := fun hf => h.f5 (by rwa [fl_set ho, if_neg (by decide)] at hf)
  f6 := fun hf => h.f6 (by rwa [fl_set ho, if_neg (by decide)] at hf)
  f7 := fun hf => h.f7 (by rwa [fl_set ho, if_neg (by decide)] at hf)
  f8 := fun hf => h.f8 (by rwa [fl_set ho, if_neg (by decide)] at hf)
  f9 := fun hf => h.f9 (by rwa [fl_set ho, if_neg (by decide)] at hf)
  f10 := fun hf => h.f10 (by rwa [fl_set ho, if_neg (by decide)] at hf)
  f11 := fun hf => h.f11 (by rwa [fl_set ho, if_neg (by decide)] at hf)
theorem MajI.s1 {E T p : Nat} {w0 w : World} {l : Array Bool} {v2 v3 v10 v11 v12 v13 v14 v15 v16 v17 v18 v19 x : Value} (h : MajI E T p w0 l w v2 v3 v10 v11 v12 v13 v14 v15 v16 v17 v18 v19) (ho : l.getD 1 true = false) (hx : x = .pointer (some ⟨p, 0, none⟩)) : MajI E T p w0 (l.setIfInBounds 1 true) w v2 v3 v10 x v12 v13 v14 v15 v16 v17 v18 v19 where
  size := by rw [Array.size_setIfInBounds]; exact h.size
  src := h.src
  grown := h.grown
  f0 := fun hf => h.f0 (by rwa [fl_set ho, if_neg (by decide)] at hf)
  f1 := fun _ => hx
  f2 := fun hf => h.f2 (by rwa [fl_set ho, if_neg (by decide)] at hf)
  f3 := fun hf => h.f3 (by rwa [fl_set ho, if_neg (by decide)] at hf)
  f4 := fun hf => h.f4 (by rwa [fl_set ho, if_neg (by decide)] at hf)
  f5 := fun hf => h.f5 (by rwa [fl_set ho, if_neg (by decide)] at hf)
  f6 := fun hf => h.f6 (by rwa [fl_set ho, if_neg (by decide)] at hf)
  f7 := fun hf => h.f7 (by rwa [fl_set ho, if_neg (by decide)] at hf)
  f8 := fun hf => h.f8 (by rwa [fl_set ho, if_neg (by decide)] at hf)
  f9 := fun hf => h.f9 (by rwa [fl_set ho, if_neg (by decide)] at hf)
  f10 := fun hf => h.f10 (by rwa [fl_set ho, if_neg (by decide)] at hf)
  f11 := fun hf => h.f11 (by rwa [fl_set ho, if_neg (by decide)] at hf)
theorem MajI.s2 {E T p : Nat} {w0 w : World} {l : Array Bool} {v2 v3 v10 v11 v12 v13 v14 v15 v16 v17 v18 v19 x : Value} (h : MajI E T p w0 l w v2 v3 v10 v11 v12 v13 v14 v15 v16 v17 v18 v19) (ho : l.getD 2 true = false) (hx : ∃ z : Nat, x = .int .i64 z ∧ z < 4) : MajI E T p w0 (l.setIfInBounds 2 true) w v2 v3 v10 v11 x v13 v14 v15 v16 v17 v18 v19 where
  size := by rw [Array.size_setIfInBounds]; exact h.size
  src := h.src
  grown := h.grown
  f0 := fun hf => h.f0 (by rwa [fl_set ho, if_neg (by decide)] at hf)
  f1 := fun hf => h.f1 (by rwa [fl_set ho, if_neg (by decide)] at hf)
  f2 := fun _ => hx
  f3 := fun hf => h.f3 (by rwa [fl_set ho, if_neg (by decide)] at hf)
  f4 := fun hf => h.f4 (by rwa [fl_set ho, if_neg (by decide)] at hf)
  f5 := fun hf => h.f5 (by rwa [fl_set ho, if_neg (by decide)] at hf)
  f6 := fun hf => h.f6 (by rwa [fl_set ho, if_neg (by decide)] at hf)
  f7 := fun hf => h.f7 (by rwa [fl_set ho, if_neg (by decide)] at hf)
  f8 := fun hf => h.f8 (by rwa [fl_set ho, if_neg (by decide)] at hf)
  f9 := fun hf => h.f9 (by rwa [fl_set ho, if_neg (by decide)] at hf)
  f10 := fun hf => h.f10 (by rwa [fl_set ho, if_neg (by decide)] at hf)
  f11 := fun hf => h.f11 (by rwa [fl_set ho, if_neg (by decide)] at hf)
theorem MajI.s3 {E T p : Nat} {w0 w : World} {l : Array Bool} {v2 v3 v10 v11 v12 v13 v14 v15 v16 v17 v18 v19 x : Value} (h : MajI E T p w0 l w v2 v3 v10 v11 v12 v13 v14 v15 v16 v17 v18 v19) (ho : l.getD 3 true = false) (hx : ∃ b z : Nat, x = .pointer (some ⟨b, z, none⟩) ∧ TabW E w0 w c4 b ∧ z < 4) : MajI E T p w0 (l.setIfInBounds 3 true) w v2 v3 v10 v11 v12 x v14 v15 v16 v17 v18 v19 where
  size := by rw [Array.size_setIfInBounds]; exact h.size
  src := h.src
  grown := h.grown
  f0 := fun hf => h.f0 (by rwa [fl_set ho, if_neg (by decide)] at hf)
  f1 := fun hf => h.f1 (by rwa [fl_set ho, if_neg (by decide)] at hf)
  f2 := fun hf => h.f2 (by rwa [fl_set ho, if_neg (by decide)] at hf)
  f3 := fun _ => hx
  f4 := fun hf => h.f4 (by rwa [fl_set ho, if_neg (by decide)] at hf)
  f5 := fun hf => h.f5 (by rwa [fl_set ho, if_neg (by decide)] at hf)
  f6 := fun hf => h.f6 (by rwa [fl_set ho, if_neg (by decide)] at hf)
  f7 := fun hf => h.f7 (by rwa [fl_set ho, if_neg (by decide)] at hf)
  f8 := fun hf => h.f8 (by rwa [fl_set ho, if_neg (by decide)] at hf)
  f9 := fun hf => h.f9 (by rwa [fl_set ho, if_neg (by decide)] at hf)
  f10 := fun hf => h.f10 (by rwa [fl_set ho, if_neg (by decide)] at hf)
  f11 := fun hf => h.f11 (by rwa [fl_set ho, if_neg (by decide)] at hf)
theorem MajI.s4 {E T p : Nat} {w0 w : World} {l : Array Bool} {v2 v3 v10 v11 v12 v13 v14 v15 v16 v17 v18 v19 x : Value} (h : MajI E T p w0 l w v2 v3 v10 v11 v12 v13 v14 v15 v16 v17 v18 v19) (ho : l.getD 4 true = false) (hx : ∃ y : Int, x = .int .i64 y) : MajI E T p w0 (l.setIfInBounds 4 true) w v2 v3 v10 v11 v12 v13 x v15 v16 v17 v18 v19 where
  size := by rw [Array.size_setIfInBounds]; exact h.size
  src := h.src
  grown := h.grown
  f0 := fun hf => h.f0 (by rwa [fl_set ho, if_neg (by decide)] at hf)
  f1 := fun hf => h.f1 (by rwa [fl_set ho, if_neg (by decide)] at hf)
  f2 := fun hf => h.f2 (by rwa [fl_set ho, if_neg (by decide)] at hf)
  f3 := fun hf => h.f3 (by rwa [fl_set ho, if_neg (by decide)] at hf)
  f4 := fun _ => hx
  f5 := fun hf => h.f5 (by rwa [fl_set ho, if_neg (by decide)] at hf)
  f6 := fun hf => h.f6 (by rwa [fl_set ho, if_neg (by decide)] at hf)
  f7 := fun hf => h.f7 (by rwa [fl_set ho, if_neg (by decide)] at hf)
  f8 := fun hf => h.f8 (by rwa [fl_set ho, if_neg (by decide)] at hf)
  f9 := fun hf => h.f9 (by rwa [fl_set ho, if_neg (by decide)] at hf)
  f10 := fun hf => h.f10 (by rwa [fl_set ho, if_neg (by decide)] at hf)
  f11 := fun hf => h.f11 (by rwa [fl_set ho, if_neg (by decide)] at hf)
theorem MajI.s5 {E T p : Nat} {w0 w : World} {l : Array Bool} {v2 v3 v10 v11 v12 v13 v14 v15 v16 v17 v18 v19 x : Value} (h : MajI E T p w0 l w v2 v3 v10 v11 v12 v13 v14 v15 v16 v17 v18 v19) (ho : l.getD 5 true = false) (hx : ∃ b : Nat, x = .slice (some ⟨b, 0, none⟩) 3 3 ∧ TabW E w0 w c3 b) : MajI E T p w0 (l.setIfInBounds 5 true) w v2 v3 v10 v11 v12 v13 v14 x v16 v17 v18 v19 where
  size := by rw [Array.size_setIfInBounds]; exact h.size
  src := h.src
  grown := h.grown
  f0 := fun hf => h.f0 (by rwa [fl_set ho, if_neg (by decide)] at hf)
  f1 := fun hf => h.f1 (by rwa [fl_set ho, if_neg (by decide)] at hf)
  f2 := fun hf => h.f2 (by rwa [fl_set ho, if_neg (by decide)] at hf)
  f3 := fun hf => h.f3 (by rwa [fl_set ho, if_neg (by decide)] at hf)
  f4 := fun hf => h.f4 (by rwa [fl_set ho, if_neg (by decide)] at hf)
  f5 := fun _ => hx
  f6 := fun hf => h.f6 (by rwa [fl_set ho, if_neg (by decide)] at hf)
  f7 := fun hf => h.f7 (by rwa [fl_set ho, if_neg (by decide)] at hf)
  f8 := fun hf => h.f8 (by rwa [fl_set ho, if_neg (by decide)] at hf)
  f9 := fun hf => h.f9 (by rwa [fl_set ho, if_neg (by decide)] at hf)
  f10 := fun hf => h.f10 (by rwa [fl_set ho, if_neg (by decide)] at hf)
  f11 := fun hf => h.f11 (by rwa [fl_set ho, if_neg (by decide)] at hf)
theorem MajI.s6 {E T p : Nat} {w0 w : World} {l : Array Bool} {v2 v3 v10 v11 v12 v13 v14 v15 v16 v17 v18 v19 x : Value} (h : MajI E T p w0 l w v2 v3 v10 v11 v12 v13 v14 v15 v16 v17 v18 v19) (ho : l.getD 6 true = false) (hx : x = .pointer (some ⟨p, 0, none⟩)) : MajI E T p w0 (l.setIfInBounds 6 true) w v2 v3 v10 v11 v12 v13 v14 v15 x v17 v18 v19 where
  size := by rw [Array.size_setIfInBounds]; exact h.size
  src := h.src
  grown := h.grown
  f0 := fun hf => h.f0 (by rwa [fl_set ho, if_neg (by decide)] at hf)
  f1 := fun hf => h.f1 (by rwa [fl_set ho, if_neg (by decide)] at hf)
  f2 := fun hf => h.f2 (by rwa [fl_set ho, if_neg (by decide)] at hf)
  f3 := fun hf => h.f3 (by rwa [fl_set ho, if_neg (by decide)] at hf)
  f4 := fun hf => h.f4 (by rwa [fl_set ho, if_neg (by decide)] at hf)
  f5 := fun hf => h.f5 (by rwa [fl_set ho, if_neg (by decide)] at hf)
  f6 := fun _ => hx
  f7 := fun hf => h.f7 (by rwa [fl_set ho, if_neg (by decide)] at hf)
  f8 := fun hf => h.f8 (by rwa [fl_set ho, if_neg (by decide)] at hf)
  f9 := fun hf => h.f9 (by rwa [fl_set ho, if_neg (by decide)] at hf)
  f10 := fun hf => h.f10 (by rwa [fl_set ho, if_neg (by decide)] at hf)
  f11 := fun hf => h.f11 (by rwa [fl_set ho, if_neg (by decide)] at hf)
theorem MajI.s7 {E T p : Nat} {w0 w : World} {l : Array Bool} {v2 v3 v10 v11 v12 v13 v14 v15 v16 v17 v18 v19 x : Value} (h : MajI E T p w0 l w v2 v3 v10 v11 v12 v13 v14 v15 v16 v17 v18 v19) (ho : l.getD 7 true = false) (hx : ∃ z : Nat, x = .int .i64 z ∧ z < 3) : MajI E T p w0 (l.setIfInBounds 7 true) w v2 v3 v10 v11 v12 v13 v14 v15 v16 x v18 v19 where
  size := by rw [Array.size_setIfInBounds]; exact h.size
  src := h.src
  grown := h.grown
  f0 := fun hf => h.f0 (by rwa [fl_set ho, if_neg (by decide)] at hf)
  f1 := fun hf => h.f1 (by rwa [fl_set ho, if_neg (by decide)] at hf)
  f2 := fun hf => h.f2 (by rwa [fl_set ho, if_neg (by decide)] at hf)
  f3 := fun hf => h.f3 (by rwa [fl_set ho, if_neg (by decide)] at hf)
  f4 := fun hf => h.f4 (by rwa [fl_set ho, if_neg (by decide)] at hf)
  f5 := fun hf => h.f5 (by rwa [fl_set ho, if_neg (by decide)] at hf)
  f6 := fun hf => h.f6 (by rwa [fl_set ho, if_neg (by decide)] at hf)
  f7 := fun _ => hx
  f8 := fun hf => h.f8 (by rwa [fl_set ho, if_neg (by decide)] at hf)
  f9 := fun hf => h.f9 (by rwa [fl_set ho, if_neg (by decide)] at hf)
  f10 := fun hf => h.f10 (by rwa [fl_set ho, if_neg (by decide)] at hf)
  f11 := fun hf => h.f11 (by rwa [fl_set ho, if_neg (by decide)] at hf)
theorem MajI.s8 {E T p : Nat} {w0 w : World} {l : Array Bool} {v2 v3 v10 v11 v12 v13 v14 v15 v16 v17 v18 v19 x : Value} (h : MajI E T p w0 l w v2 v3 v10 v11 v12 v13 v14 v15 v16 v17 v18 v19) (ho : l.getD 8 true = false) (hx : ∃ b z : Nat, x = .pointer (some ⟨b, z, none⟩) ∧ TabW E w0 w c3 b ∧ z < 3) : MajI E T p w0 (l.setIfInBounds 8 true) w v2 v3 v10 v11 v12 v13 v14 v15 v16 v17 x v19 where
  size := by rw [Array.size_setIfInBounds]; exact h.size
  src := h.src
  grown := h.grown
  f0 := fun hf => h.f0 (by rwa [fl_set ho, if_neg (by decide)] at hf)
  f1 := fun hf => h.f1 (by rwa [fl_set ho, if_neg (by decide)] at hf)
  f2 := fun hf => h.f2 (by rwa [fl_set ho, if_neg (by decide)] at hf)
  f3 := fun hf => h.f3 (by rwa [fl_set ho, if_neg (by decide)] at hf)
  f4 := fun hf => h.f4 (by rwa [fl_set ho, if_neg (by decide)] at hf)
  f5 := fun hf => h.f5 (by rwa [fl_set ho, if_neg (by decide)] at hf)
  f6 := fun hf => h.f6 (by rwa [fl_set ho, if_neg (by decide)] at hf)
  f7 := fun hf => h.f7 (by rwa [fl_set ho, if_neg (by decide)] at hf)
  f8 := fun _ => hx
  f9 := fun hf => h.f9 (by rwa [fl_set ho, if_neg (by decide)] at hf)
  f10 := fun hf => h.f10 (by rwa [fl_set ho, if_neg (by decide)] at hf)
  f11 := fun hf => h.f11 (by rwa [fl_set ho, if_neg (by decide)] at hf)
theorem MajI.s9 {E T p : Nat} {w0 w : World} {l : Array Bool} {v2 v3 v10 v11 v12 v13 v14 v15 v16 v17 v18 v19 x : Value} (h : MajI E T p w0 l w v2 v3 v10 v11 v12 v13 v14 v15 v16 v17 v18 v19) (ho : l.getD 9 true = false) (hx : ∃ y : Int, x = .int .i64 y) : MajI E T p w0 (l.setIfInBounds 9 true) w v2 v3 v10 v11 v12 v13 v14 v15 v16 v17 v18 x where
  size := by rw [Array.size_setIfInBounds]; exact h.size
  src := h.src
  grown := h.grown
  f0 := fun hf => h.f0 (by rwa [fl_set ho, if_neg (by decide)] at hf)
  f1 := fun hf => h.f1 (by rwa [fl_set ho, if_neg (by decide)] at hf)
  f2 := fun hf => h.f2 (by rwa [fl_set ho, if_neg (by decide)] at hf)
  f3 := fun hf => h.f3 (by rwa [fl_set ho, if_neg (by decide)] at hf)
  f4 := fun hf => h.f4 (by rwa [fl_set ho, if_neg (by decide)] at hf)
  f5 := fun hf => h.f5 (by rwa [fl_set ho, if_neg (by decide)] at hf)
  f6 := fun hf => h.f6 (by rwa [fl_set ho, if_neg (by decide)] at hf)
  f7 := fun hf => h.f7 (by rwa [fl_set ho, if_neg (by decide)] at hf)
  f8 := fun hf => h.f8 (by rwa [fl_set ho, if_neg (by decide)] at hf)
  f9 := fun _ => hx
  f10 := fun hf => h.f10 (by rwa [fl_set ho, if_neg (by decide)] at hf)
  f11 := fun hf => h.f11 (by rwa [fl_set ho, if_neg (by decide)] at hf)
theorem MajI.s10 {E T p : Nat} {w0 w : World} {l : Array Bool} {v2 v3 v10 v11 v12 v13 v14 v15 v16 v17 v18 v19 x : Value} (h : MajI E T p w0 l w v2 v3 v10 v11 v12 v13 v14 v15 v16 v17 v18 v19) (ho : l.getD 10 true = false) (hx : ∃ y : Int, x = .int .i64 y) : MajI E T p w0 (l.setIfInBounds 10 true) w x v3 v10 v11 v12 v13 v14 v15 v16 v17 v18 v19 where
  size := by rw [Array.size_setIfInBounds]; exact h.size
  src := h.src
  grown := h.grown
  f0 := fun hf => h.f0 (by rwa [fl_set ho, if_neg (by decide)] at hf)
  f1 := fun hf => h.f1 (by rwa [fl_set ho, if_neg (by decide)] at hf)
  f2 := fun hf => h.f2 (by rwa [fl_set ho, if_neg (by decide)] at hf)
  f3 := fun hf => h.f3 (by rwa [fl_set ho, if_neg (by decide)] at hf)
  f4 := fun hf => h.f4 (by rwa [fl_set ho, if_neg (by decide)] at hf)
  f5 := fun hf => h.f5 (by rwa [fl_set ho, if_neg (by decide)] at hf)
  f6 := fun hf => h.f6 (by rwa [fl_set ho, if_neg (by decide)] at hf)
  f7 := fun hf => h.f7 (by rwa [fl_set ho, if_neg (by decide)] at hf)
  f8 := fun hf => h.f8 (by rwa [fl_set ho, if_neg (by decide)] at hf)
  f9 := fun hf => h.f9 (by rwa [fl_set ho, if_neg (by decide)] at hf)
  f10 := fun _ => hx
  f11 := fun hf => h.f11 (by rwa [fl_set ho, if_neg (by decide)] at hf)
theorem MajI.s11 {E T p : Nat} {w0 w : World} {l : Array Bool} {v2 v3 v10 v11 v12 v13 v14 v15 v16 v17 v18 v19 x : Value} (h : MajI E T p w0 l w v2 v3 v10 v11 v12 v13 v14 v15 v16 v17 v18 v19) (ho : l.getD 11 true = false) (hx : ∃ y : Int, x = .int .i64 y) : MajI E T p w0 (l.setIfInBounds 11 true) w v2 x v10 v11 v12 v13 v14 v15 v16 v17 v18 v19 where
  size := by rw [Array.size_setIfInBounds]; exact h.size
  src := h.src
  grown := h.grown
  f0 := fun hf => h.f0 (by rwa [fl_set ho, if_neg (by decide)] at hf)
  f1 := fun hf => h.f1 (by rwa [fl_set ho, if_neg (by decide)] at hf)
  f2 := fun hf => h.f2 (by rwa [fl_set ho, if_neg (by decide)] at hf)
  f3 := fun hf => h.f3 (by rwa [fl_set ho, if_neg (by decide)] at hf)
  f4 := fun hf => h.f4 (by rwa [fl_set ho, if_neg (by decide)] at hf)
  f5 := fun hf => h.f5 (by rwa [fl_set ho, if_neg (by decide)] at hf)
  f6 := fun hf => h.f6 (by rwa [fl_set ho, if_neg (by decide)] at hf)
  f7 := fun hf => h.f7 (by rwa [fl_set ho, if_neg (by decide)] at hf)
  f8 := fun hf => h.f8 (by rwa [fl_set ho, if_neg (by decide)] at hf)
  f9 := fun hf => h.f9 (by rwa [fl_set ho, if_neg (by decide)] at hf)
  f10 := fun hf => h.f10 (by rwa [fl_set ho, if_neg (by decide)] at hf)
  f11 := fun _ => hx
set_option maxHeartbeats 1000000 in
set_option maxRecDepth 100000 in
theorem drawIsMajority_any (ao : Option Addr) (n cap : Nat) (cs : List Int) (w : World) (hr : RdB w w.heap.size ao n cs) (hn : n ≤ 1048576) :
    Calls Try.prog 36 #[.slice ao n cap] w (DrawnII w) := by
  have HR := Lib.hid hr; clear hr
  go_enter Try.func36, Try.ntmps36
  go_wp2_with fail
  refine (from_any _ _ _ cs _ HR.out hn).mono ?_
  rintro e w1 ⟨p, rfl, hlo, hs1, hb1⟩
  have HB := Lib.hid hb1
  have hp := hs1.lt
  clear hb1
  go_wp2_with fail
  refine (next_any _ _ _ hs1 (by omega)).mono ?_
  rintro e w2 ⟨y, rfl, -, -, -, hs2, g2⟩
  have S2 := Lib.hid hs2
  have G2 := Lib.hid g2
  clear hs1 hs2 g2
  by_cases h0 : y = 0
  rotate_left
  · have t0 : (y == 0) = false := by simp [h0]
    clear h0
    go_wp2_with fail
    refine (next_any _ _ _ S2.out (by omega)).mono ?_
    rintro e w3 ⟨a, rfl, -, -, -, hs3, g3⟩
    go_wp2_with fail
    refine (next_any _ _ _ hs3 (by omega)).mono ?_
    rintro e w4 ⟨b, rfl, -, -, -, hs4, g4⟩
    go_wp2
    go_ret2
    exact ⟨_, _, rfl, below_thrown HB.out (grown_trans (grown_trans G2.out g3) g4) hlo⟩
  subst h0
  go_upto_region 3 with fail
  have hpd : p < w2.drew.heap.size := S2.out.lt
  refine wp_region_any (by kernel_rfl) (wpAny_inv (fun l a w' => ∃ v2 v3 v10 v11 v12 v13 v14 v15 v16 v17 v18 v19 : Value, a = ⟨#[.slice ao n cap, undef, v2, v3, .pointer (some ⟨p, 0, none⟩), .slice ao n cap, .pointer (some ⟨p, 0, none⟩), .pointer (some ⟨p, 0, none⟩), .int .i64 0, .bool true, v10, v11, v12, v13, v14, v15, v16, v17, v18, v19, undef, undef, undef, undef], []⟩ ∧ MajI 2 70 p w2.drew l w' v2 v3 v10 v11 v12 v13 v14 v15 v16 v17 v18 v19) ?_ ?_ _ _ _ _ (by decide) ?_)
  · rintro l a w' ⟨v2, v3, v10, v11, v12, v13, v14, v15, v16, v17, v18, v19, rfl, h⟩ i hi K hK
    obtain ⟨hi1, ho, ha⟩ := ready_mem hi
    clear hi
    have hi2 : i < 12 := hi1
    clear hi1
    have hc : i = 0 ∨ i = 1 ∨ i = 2 ∨ i = 3 ∨ i = 4 ∨ i = 5 ∨ i = 6 ∨ i = 7 ∨ i = 8 ∨ i = 9 ∨ i = 10 ∨ i = 11 := by omega
    rcases hc with rfl | rfl | rfl | rfl | rfl | rfl | rfl | rfl | rfl | rfl | rfl | rfl
    · clear ha
      refine wpOp_of rfl rfl ?_
      go_wp2_with fail
      exact ⟨_, _, _, _, _, _, _, _, _, _, _, _, rfl, (h.move (h.src.below ((Below.refl _ _).alloc (Nat.le_refl _) _)) (grown_step h.grown ((Below.refl _ _).alloc (Nat.le_refl _) _) h.grown.size) (fun cs b t => t.alloc _)).s0 ho ⟨_, rfl, h.grown.size, heap_alloc_new _ _⟩⟩
    · clear ha
      refine wpOp_of rfl rfl ?_
      go_wp2_with fail
      exact ⟨_, _, _, _, _, _, _, _, _, _, _, _, rfl, h.s1 ho rfl⟩
    · have d1 : fl l 1 = true := (by simp [Region.binds] at ha; first | exact ha | exact ha.1 | exact ha.2 | exact ha.1.1 | exact ha.1.2 | exact ha.2.1 | exact ha.2.2 | exact ha.2.2.1)
      clear ha
      refine wpOp_of rfl rfl ?_
      obtain rfl := h.f1 d1
      go_wp2_with fail
      refine (next_any p 4 _ h.src (by omega)).mono ?_
      rintro e w'' ⟨z, rfl, hz0, hz1, -, hs, hg⟩
      obtain ⟨z, rfl⟩ := Int.eq_ofNat_of_zero_le hz0
      have hz : z < 4 := by have := hz1 (by omega); omega
      have h' := Lib.hid (h.move hs (grown_trans h.grown hg) (fun cs b t => t.grown hg hpd))
      clear h hs hg hz0 hz1
      go_wp2_with fail
      exact ⟨_, _, _, _, _, _, _, _, _, _, _, _, rfl, h'.out.s2 ho ⟨z, rfl, hz⟩⟩
    · have d0 : fl l 0 = true := (by simp [Region.binds] at ha; first | exact ha | exact ha.1 | exact ha.2 | exact ha.1.1 | exact ha.1.2 | exact ha.2.1 | exact ha.2.2 | exact ha.2.2.1)
      have d2 : fl l 2 = true := (by simp [Region.binds] at ha; first | exact ha | exact ha.1 | exact ha.2 | exact ha.1.1 | exact ha.1.2 | exact ha.2.1 | exact ha.2.2 | exact ha.2.2.1)
      clear ha
      refine wpOp_of rfl rfl ?_
      obtain ⟨b, rfl, t⟩ := h.f0 d0
      obtain ⟨z, rfl, hz⟩ := h.f2 d2
      have hz4 : (z : Int) < 4 := by omega
      go_wp2_with fail
      exact ⟨_, _, _, _, _, _, _, _, _, _, _, _, rfl, h.s3 ho ⟨b, z, (by simp), t, hz⟩⟩
    · have d3 : fl l 3 = true := (by simp [Region.binds] at ha; first | exact ha | exact ha.1 | exact ha.2 | exact ha.1.1 | exact ha.1.2 | exact ha.2.1 | exact ha.2.2 | exact ha.2.2.1)
      clear ha
      refine wpOp_of rfl rfl ?_
      obtain ⟨b, z, rfl, t, hz⟩ := h.f3 d3
      obtain ⟨x, hx⟩ := c4_at z hz
      have hcell := (t.cell z).trans hx
      go_wp2_with fail
      exact ⟨_, _, _, _, _, _, _, _, _, _, _, _, rfl, h.s4 ho ⟨_, rfl⟩⟩
    · clear ha
      refine wpOp_of rfl rfl ?_
      go_wp2_with fail
      exact ⟨_, _, _, _, _, _, _, _, _, _, _, _, rfl, (h.move (h.src.below ((Below.refl _ _).alloc (Nat.le_refl _) _)) (grown_step h.grown ((Below.refl _ _).alloc (Nat.le_refl _) _) h.grown.size) (fun cs b t => t.alloc _)).s5 ho ⟨_, rfl, h.grown.size, heap_alloc_new _ _⟩⟩
    · clear ha
      refine wpOp_of rfl rfl ?_
      go_wp2_with fail
      exact ⟨_, _, _, _, _, _, _, _, _, _, _, _, rfl, h.s6 ho rfl⟩
    · have d6 : fl l 6 = true := (by simp [Region.binds] at ha; first | exact ha | exact ha.1 | exact ha.2 | exact ha.1.1 | exact ha.1.2 | exact ha.2.1 | exact ha.2.2 | exact ha.2.2.1)
      clear ha
      refine wpOp_of rfl rfl ?_
      obtain rfl := h.f6 d6
      go_wp2_with fail
      refine (next_any p 3 _ h.src (by omega)).mono ?_
      rintro e w'' ⟨z, rfl, hz0, hz1, -, hs, hg⟩
      obtain ⟨z, rfl⟩ := Int.eq_ofNat_of_zero_le hz0
      have hz : z < 3 := by have := hz1 (by omega); omega
      have h' := Lib.hid (h.move hs (grown_trans h.grown hg) (fun cs b t => t.grown hg hpd))
      clear h hs hg hz0 hz1
      go_wp2_with fail
      exact ⟨_, _, _, _, _, _, _, _, _, _, _, _, rfl, h'.out.s7 ho ⟨z, rfl, hz⟩⟩
    · have d5 : fl l 5 = true := (by simp [Region.binds] at ha; first | exact ha | exact ha.1 | exact ha.2 | exact ha.1.1 | exact ha.1.2 | exact ha.2.1 | exact ha.2.2 | exact ha.2.2.1)
      have d7 : fl l 7 = true := (by simp [Region.binds] at ha; first | exact ha | exact ha.1 | exact ha.2 | exact ha.1.1 | exact ha.1.2 | exact ha.2.1 | exact ha.2.2 | exact ha.2.2.1)
      clear ha
      refine wpOp_of rfl rfl ?_
      obtain ⟨b, rfl, t⟩ := h.f5 d5
      obtain ⟨z, rfl, hz⟩ := h.f7 d7
      have hz4 : (z : Int) < 3 := by omega
      go_wp2_with fail
      exact ⟨_, _, _, _, _, _, _, _, _, _, _, _, rfl, h.s8 ho ⟨b, z, (by simp), t, hz⟩⟩
    · have d8 : fl l 8 = true := (by simp [Region.binds] at ha; first | exact ha | exact ha.1 | exact ha.2 | exact ha.1.1 | exact ha.1.2 | exact ha.2.1 | exact ha.2.2 | exact ha.2.2.1)
      clear ha
      refine wpOp_of rfl rfl ?_
      obtain ⟨b, z, rfl, t, hz⟩ := h.f8 d8
      obtain ⟨x, hx⟩ := c3_at z hz
      have hcell := (t.cell z).trans hx
      go_wp2_with fail
      exact ⟨_, _, _, _, _, _, _, _, _, _, _, _, rfl, h.s9 ho ⟨_, rfl⟩⟩
    · have d4 : fl l 4 = true := (by simp [Region.binds] at ha; first | exact ha | exact ha.1 | exact ha.2 | exact ha.1.1 | exact ha.1.2 | exact ha.2.1 | exact ha.2.2 | exact ha.2.2.1)
      clear ha
      refine wpOp_of rfl rfl ?_
      obtain ⟨x, rfl⟩ := h.f4 d4
      go_wp2_with fail
      exact ⟨_, _, _, _, _, _, _, _, _, _, _, _, rfl, h.s10 ho ⟨_, rfl⟩⟩
    · have d9 : fl l 9 = true := (by simp [Region.binds] at ha; first | exact ha | exact ha.1 | exact ha.2 | exact ha.1.1 | exact ha.1.2 | exact ha.2.1 | exact ha.2.2 | exact ha.2.2.1)
      clear ha
      refine wpOp_of rfl rfl ?_
      obtain ⟨x, rfl⟩ := h.f9 d9
      go_wp2_with fail
      exact ⟨_, _, _, _, _, _, _, _, _, _, _, _, rfl, h.s11 ho ⟨_, rfl⟩⟩
  · rintro l a w' ⟨v2, v3, v10, v11, v12, v13, v14, v15, v16, v17, v18, v19, rfl, h⟩ hrd
    have hall := ready_nil (by kernel_rfl) h.size hrd
    obtain ⟨x, rfl⟩ := h.f10 (hall 10 (by decide))
    obtain ⟨y, rfl⟩ := h.f11 (hall 11 (by decide))
    clear hall hrd
    have hfin := Lib.hid (below_thrown HB.out (grown_trans (grown_step G2.out (Below.refl w2.heap.size w2).drew G2.out.size) h.grown) hlo)
    clear h
    go_wp2
    go_ret2
    exact ⟨_, _, rfl, hfin.out⟩
  · exact ⟨_, _, _, _, _, _, _, _, _, _, _, _, rfl, ⟨by simp, S2.out.below (Below.refl w2.heap.size w2).drew, World.grownBy.refl _ _, fun hf => absurd hf (by decide), fun hf => absurd hf (by decide), fun hf => absurd hf (by decide), fun hf => absurd hf (by decide), fun hf => absurd hf (by decide), fun hf => absurd hf (by decide), fun hf => absurd hf (by decide), fun hf => absurd hf (by decide), fun hf => absurd hf (by decide), fun hf => absurd hf (by decide), fun hf => absurd hf (by decide), fun hf => absurd hf (by decide)⟩⟩
end Go.Proofs.Ytkidhilipeoliaa
