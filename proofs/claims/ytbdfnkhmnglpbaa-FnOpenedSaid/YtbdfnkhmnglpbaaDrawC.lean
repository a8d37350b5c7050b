/-
  The draws of chapter 2: spec.l02Draw, l02DrawSeed.
  spec.l02DrawSeed; the draws of the laws of chapter 2 out of a code.
  spec.DrawCrcOfBits, DrawCrcOfBytes and what stands on them.
  spec.DrawSeedAfter, DrawAppendCrc, DrawSyndromeOf, DrawHasCrc.
-/
import Derived.Test.YtbdfnkhmnglpbaaTwoB
import Derived.Test.YtbdfnkhmnglpbaaDrawA
import Derived.Deep.RegionWith
import Derived.Handy
import Derived.Deep.DeepCutAuto
import Derived.Deep.CutBlock
namespace Go.Proofs.Ytbdfnkhmnglpbaa
section
open Go.RowKit

/-- Block b holds a struct of two numbers. -/
def StructAt (T : Nat) (w : World) (b : Nat) (x y : Int) : Prop := w.heap[b]? = some (.cells #[.int .i64 x, .int .i64 y] T (0, 0))
section
variable {T b p : Nat} {w w' : World} {x y : Int}
theorem StructAt.c0 (h : StructAt T w b x y) : w.cell? ⟨b, 0, none⟩ = some (.int .i64 x) := cell_of_row w b 0 _ _ (0, 0) h
theorem StructAt.c1 (h : StructAt T w b x y) : w.cell? ⟨b, 1, none⟩ = some (.int .i64 y) := cell_of_row w b 1 _ _ (0, 0) h
theorem StructAt.f0 (h : StructAt T w b x y) (i : Nat) : w.frozen? ⟨b, i, none⟩ = false := frozen_of_row w b i _ _ h
theorem StructAt.lt (h : StructAt T w b x y) : b < w.heap.size := (Array.getElem?_eq_some_iff.1 h).1
theorem StructAt.grown {g : Option Nat} (h : StructAt T w b x y) (hg : w.grownBy w' g) (hne : some b ≠ g) : StructAt T w' b x y := (hg.block b h.lt hne).trans h
theorem StructAt.below {B : Nat} (h : StructAt T w b x y) (hb : Below B w w') (hlt : b < B) : StructAt T w' b x y := (hb.block b hlt).trans h
theorem StructAt.new (w : World) : StructAt T (w.alloc (.cells #[.int .i64 x, .int .i64 y] T)) w.heap.size x y := heap_alloc_new w _
theorem StructAt.set0 (h : StructAt T w b x y) (z : Int) : StructAt T (w.setCell ⟨b, 0, none⟩ (.int .i64 z)) b z y := by
  have := heap_setCell_same w b 0 _ _ (.int .i64 z) h
  simpa [StructAt] using this
theorem StructAt.set1 (h : StructAt T w b x y) (z : Int) : StructAt T (w.setCell ⟨b, 1, none⟩ (.int .i64 z)) b x z := by
  have := heap_setCell_same w b 1 _ _ (.int .i64 z) h
  simpa [StructAt] using this
end
/-- What a draw of a code leaves: some struct; of old memory only the source has been written. -/
def DrawnCrc (T : Nat) (w : World) (p : Nat) (e : Ending) (w' : World) : Prop :=
  ∃ wd pl : Int, e = .returned (.agg #[.int .i64 wd, .int .i64 pl]) ∧ Src T w' p ∧ w.grownBy w' (some p)

/-- Entry z of a table of three. -/
def tab3 (a b c : Int) (z : Nat) : Int := if z = 0 then a else if z = 1 then b else c
theorem tab3_cell {w w' : World} {T p : Nat} {a b c : Int} (hg : (w.alloc (.cells #[.int .i64 a, .int .i64 b, .int .i64 c] T)).grownBy w' (some p)) (hp : p < w.heap.size) (z : Nat) (hz : z < 3) : w'.cell? ⟨w.heap.size, z, none⟩ = some (.int .i64 (tab3 a b c z)) := by
  rw [table_cell hg hp z]
  match z, hz with
  | 0, _ | 1, _ | 2, _ => rfl
theorem tab3_list (a b c : Int) (z : Nat) (hz : z < 3) : ([.int .i64 a, .int .i64 b, .int .i64 c] : List Value)[z]? = some (.int .i64 (tab3 a b c z)) := by
  match z, hz with
  | 0, _ | 1, _ | 2, _ => rfl
theorem tab3_arr (a b c : Int) (z : Nat) (hz : z < 3) : (#[.int .i64 a, .int .i64 b, .int .i64 c] : Array Value)[z]? = some (.int .i64 (tab3 a b c z)) := by
  match z, hz with
  | 0, _ | 1, _ | 2, _ => rfl
theorem tab3_alloc (a b c : Int) (z : Nat) (hz : z < 3) (T : Nat) : ∀ W : World, (W.alloc (.cells #[.int .i64 a, .int .i64 b, .int .i64 c] T)).cell? ⟨W.heap.size, z, none⟩ = some (.int .i64 (tab3 a b c z)) := fun W => by
  rw [World.cell?_alloc_at _ _ _ _ rfl]; exact tab3_arr a b c z hz
/-- What the statement that turns the polynomial leaves. -/
def DrawMid (T2 T : Nat) (w : World) (p C : Nat) (wx : World) : Prop :=
  ∃ wy, wy = wx ∧ ∃ x v : Int, StructAt T wy C x v ∧ StructAt T wy w.heap.size 0 0 ∧ Src T2 wy p ∧ w.grownBy wy (some p)
theorem draw_mid_alloc {T2 T p C : Nat} {W o v : Int} {w w6 : World} {X : Obj} (hC : StructAt T w6 C W o) (hR : StructAt T w6 w.heap.size 0 0) (hS : Src T2 w6 p) (hG : w.grownBy w6 (some p)) (hp : p < w.heap.size) (hlt : w.heap.size < C) :
    DrawMid T2 T w p C ((w6.alloc X).setCell ⟨C, 1, none⟩ (.int .i64 v)) := by
  have b7 : Below w6.heap.size w6 (w6.alloc X) := (Below.refl _ _).alloc (Nat.le_refl _) _
  have hs := hG.size
  have b8 : Below w.heap.size (w6.alloc X) ((w6.alloc X).setCell ⟨C, 1, none⟩ (.int .i64 v)) := (Below.refl _ _).setCell (by simp; omega) _
  exact ⟨_, rfl, W, v, (hC.below b7 hC.lt).set1 v, (heap_setCell_other _ _ _ _ (by simp; omega)).trans (hR.below b7 hR.lt), (hS.below b7).belowB b8 hp, grown_step (grown_step hG b7 hs) b8 (Nat.le_refl _)⟩
theorem grown_undrew {a b : World} {g : Option Nat} (h : a.drew.grownBy b g) : a.grownBy b g := ⟨h.os, h.tape, h.output, h.size, h.block⟩
end

section
open Go.RowKit

/-- What a draw of a number leaves. -/
def DrawnNum (T : Nat) (w : World) (p : Nat) (e : Ending) (w' : World) : Prop := ∃ x : Int, e = .returned (.int .i64 x) ∧ Src T w' p ∧ w.grownBy w' (some p)
end

section
open Go.RowKit

/-- The code reads on while the call makes memory of its own. -/
theorem rdB_grow {w w' : World} {n : Nat} {ao : Option Addr} {cs : List Int} (h : RdB w w.heap.size ao n cs) (b : Below w.heap.size w w') : RdB w' w'.heap.size ao n cs := by
  have h1 := h.keep (w' := w') fun b' o hb => b.cell (p := ⟨b', o, none⟩) hb
  exact ⟨h1.len, fun hn => by
    obtain ⟨b', off, e, hb, hc⟩ := h1.here hn
    exact ⟨b', off, e, Nat.lt_of_lt_of_le hb b.size, hc⟩, h1.bound⟩
/-- What a draw of a code, a seed and a list leaves. -/
def DrawnCSL (E : Nat) (w : World) (e : Ending) (w' : World) : Prop :=
  ∃ (wd pl s : Int) (v : Value) (xs : List Int), e = .returned (.tuple #[.agg #[.int .i64 wd, .int .i64 pl], .int .i64 s, v]) ∧ Own E w' w.heap.size v xs ∧ xs.length ≤ 9000 ∧ Below w.heap.size w w'
/-- Stores into an older block leave what is owned. -/
theorem own_far {E R base : Nat} {w : World} {v a b : Value} {xs : List Int} (h : Own E w base v xs) (hlt : R < base) : Own E ((w.setCell ⟨R, 0, none⟩ a).setCell ⟨R, 1, none⟩ b) base v xs := by
  have g : w.grownBy ((w.setCell ⟨R, 0, none⟩ a).setCell ⟨R, 1, none⟩ b) (some R) :=
    ⟨rfl, rfl, rfl, by simp [World.setCell], fun k _ hk => (heap_setCell_other _ ⟨R, 1, none⟩ k _ (fun e => hk (by simp [e]))).trans (heap_setCell_other _ ⟨R, 0, none⟩ k _ (fun e => hk (by simp [e])))⟩
  refine h.only g ?_
  cases hk : v.ownBlock with
  | none => exact .inl rfl
  | some k => exact .inr (fun e => by cases e; have := (h.block _ hk).1; omega)
theorem struct_block {T : Nat} {w w' : World} {b B : Nat} {x y : Int} (h : StructAt T w b x y) (hb : Below B w w') (hlt : b < B) : StructAt T w' b x y := h.below hb hlt

end

section
open Go.RowKit

/-- What a draw of a code and a list leaves. -/
def DrawnCL (E : Nat) (w : World) (e : Ending) (w' : World) : Prop :=
  ∃ (wd pl : Int) (v : Value) (xs : List Int), e = .returned (.tuple #[.agg #[.int .i64 wd, .int .i64 pl], v]) ∧ Own E w' w.heap.size v xs ∧ xs.length ≤ 9000 ∧ Below w.heap.size w w'
end
end Go.Proofs.Ytbdfnkhmnglpbaa
