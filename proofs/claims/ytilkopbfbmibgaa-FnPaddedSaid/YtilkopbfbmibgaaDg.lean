/-
  A region that draws its order, walked once, whatever it draws: what each operation's slot holds once it is done (a fixed value, a number, a number below m, a table of m numbers, a place in one). No program is named here.
-/
import Derived.Test.YtilkopbfbmibgaaInv
import Derived.Test.YtilkopbfbmibgaaDrawA
namespace Go.Proofs.Ytilkopbfbmibgaa
open Go.RowKit

/-- Block b, laid since the base N, holds m numbers. -/
def NumT (N : Nat) (w : World) (b m : Nat) : Prop := N ≤ b ∧ b < w.heap.size ∧ ∀ z, z < m → ∃ x : Int, w.cell? ⟨b, z, none⟩ = some (.int .i64 x)
inductive Kd where
  | fix (v : Value)
  | num
  | nat (m : Nat)
  | tab (m : Nat)
  | adr (m : Nat)
def Kd.ok (N : Nat) (w : World) : Kd → Value → Prop
  | .fix u, v => v = u
  | .num, v => ∃ x : Int, v = .int .i64 x
  | .nat m, v => ∃ z : Nat, v = .int .i64 z ∧ z < m
  | .tab m, v => ∃ b, v = .slice (some ⟨b, 0, none⟩) m m ∧ NumT N w b m
  | .adr m, v => ∃ b z, v = .pointer (some ⟨b, z, none⟩) ∧ NumT N w b m ∧ z < m
/-- A step that leaves all blocks from N on alone. -/
def Later (N : Nat) (w w' : World) : Prop := w.heap.size ≤ w'.heap.size ∧ ∀ b, N ≤ b → b < w.heap.size → w'.heap[b]? = w.heap[b]?
theorem Later.refl (N : Nat) (w : World) : Later N w w := ⟨Nat.le_refl _, fun _ _ _ => rfl⟩
theorem Later.of_below {N : Nat} {w w' : World} (h : Below w.heap.size w w') : Later N w w' := ⟨h.size, fun b _ hb => h.block b hb⟩
theorem Later.of_grown {N p : Nat} {w w' : World} (h : w.grownBy w' (some p)) (hp : p < N) : Later N w w' := ⟨h.size, fun b hN hb => h.block b hb (fun e => by cases e; omega)⟩
theorem NumT.later {N b m : Nat} {w w' : World} (h : NumT N w b m) (hl : Later N w w') : NumT N w' b m :=
  ⟨h.1, Nat.lt_of_lt_of_le h.2.1 hl.1, fun z hz => by
    obtain ⟨x, hx⟩ := h.2.2 z hz
    exact ⟨x, (World.cell?_of_block (a := ⟨b, z, none⟩) (hl.2 b h.1 h.2.1)).trans hx⟩⟩
theorem Kd.ok.later {N : Nat} {w w' : World} {k : Kd} {v : Value} (h : k.ok N w v) (hl : Later N w w') : k.ok N w' v := by
  cases k with
  | fix u => exact h
  | num => exact h
  | nat m => exact h
  | tab m => obtain ⟨b, e, t⟩ := h; exact ⟨b, e, t.later hl⟩
  | adr m => obtain ⟨b, z, e, t, hz⟩ := h; exact ⟨b, z, e, t.later hl, hz⟩
def putV (val : Nat → Value) (i : Nat) (x : Value) : Nat → Value := fun k => if k = i then x else val k
structure RgI (n T p : Nat) (w0 : World) (ks : Nat → Kd) (l : Array Bool) (w : World) (val : Nat → Value) : Prop where
  size : l.size = n
  src : Src T w p
  grown : w0.grownBy w (some p)
  ok : ∀ j, fl l j = true → (ks j).ok w0.heap.size w (val j)
section
variable {n T p i : Nat} {w0 w w' : World} {ks : Nat → Kd} {l : Array Bool} {val : Nat → Value} {x : Value}
theorem RgI.step (h : RgI n T p w0 ks l w val) (ho : l.getD i true = false) (hs : Src T w' p) (hg : w0.grownBy w' (some p)) (hl : Later w0.heap.size w w') (hx : (ks i).ok w0.heap.size w' x) : RgI n T p w0 ks (l.setIfInBounds i true) w' (putV val i x) :=
  ⟨by rw [Array.size_setIfInBounds]; exact h.size, hs, hg, fun j hj => by
    rw [fl_set ho] at hj
    unfold putV
    by_cases e : j = i
    · subst e; rw [if_pos rfl]; exact hx
    · rw [if_neg e]
      rw [if_neg (fun h => e h.symm)] at hj
      exact (h.ok j hj).later hl⟩
theorem RgI.same (h : RgI n T p w0 ks l w val) (ho : l.getD i true = false) (hx : (ks i).ok w0.heap.size w x) : RgI n T p w0 ks (l.setIfInBounds i true) w (putV val i x) := h.step ho h.src h.grown (Later.refl _ _) hx
theorem RgI.made (h : RgI n T p w0 ks l w val) (ho : l.getD i true = false) (b : Below w.heap.size w w') (hx : (ks i).ok w0.heap.size w' x) : RgI n T p w0 ks (l.setIfInBounds i true) w' (putV val i x) :=
  h.step ho (h.src.below b) (grown_trans h.grown (grown_of_below b)) (Later.of_below b) hx
theorem RgI.drew (h : RgI n T p w0 ks l w val) (ho : l.getD i true = false) (hp : p < w0.heap.size) (hs : Src T w' p) (g : w.grownBy w' (some p)) (hx : (ks i).ok w0.heap.size w' x) : RgI n T p w0 ks (l.setIfInBounds i true) w' (putV val i x) :=
  h.step ho hs (grown_trans h.grown g) (Later.of_grown g hp) hx
theorem fl_none (n j : Nat) : fl (Array.replicate n false) j = false := by
  unfold fl
  rw [Array.getD_eq_getD_getElem?, Array.getElem?_replicate]
  split <;> rfl
theorem RgI.start (hs : Src T w0 p) (val : Nat → Value) (ks : Nat → Kd) : RgI n T p w0 ks (Array.replicate n false) w0 val :=
  ⟨by simp, hs, World.grownBy.refl _ _, fun j hj => by rw [fl_none] at hj; cases hj⟩
theorem numT_alloc {N E : Nat} {w : World} {cs : List Int} (hN : N ≤ w.heap.size) {m : Nat} (hm : cs.length = m) : NumT N (w.alloc (.cells (cs.map (Value.int .i64)).toArray E)) w.heap.size m :=
  ⟨hN, by simp, fun z hz => by
    rw [World.cell?_alloc_at _ _ _ _ rfl]
    refine ⟨cs.getD z 0, ?_⟩
    have : z < cs.length := by omega
    simp [List.getD, List.getElem?_eq_getElem this]⟩
end
/-- What a draw of two numbers leaves. -/
def DrawnNN (w : World) (e : Ending) (w' : World) : Prop := ∃ a b : Int, e = .returned (.tuple #[.int .i64 a, .int .i64 b]) ∧ Below w.heap.size w w'
end Go.Proofs.Ytilkopbfbmibgaa
