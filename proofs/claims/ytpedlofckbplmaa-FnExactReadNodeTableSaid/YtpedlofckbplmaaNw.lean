/-
  Entries of node tables in memory: what reads as an entry, as a list of entries; what a call owns. No program is named here.
-/
import Derived.Test.YtpedlofckbplmaaNd1
import Derived.Test.YtpedlofckbplmaaBase
namespace Go.Proofs.Ytpedlofckbplmaa
open Go.RowKit

theorem nd_iff (x y : Nd) : (x.id = y.id ∧ x.name = y.name ∧ x.drift = y.drift ∧ x.pas = y.pas) ↔ x = y := by
  cases x; cases y; simp
instance instNdEq : DecidableEq Nd := fun x y => decidable_of_iff _ (nd_iff x y)
def ndVal (x : Nd) : Value := .agg #[.int .i64 x.id, .string x.name, .int .i64 x.drift, .bool x.pas]
def ndCells (x : Nd) : List Value := [.int .i64 x.id, .string x.name, .int .i64 x.drift, .bool x.pas]
/-- The four cells from a place on hold an entry. -/
structure NdIn (w : World) (b off : Nat) (x : Nd) : Prop where
  c0 : w.cell? ⟨b, off, none⟩ = some (.int .i64 x.id)
  c1 : w.cell? ⟨b, off + 1, none⟩ = some (.string x.name)
  c2 : w.cell? ⟨b, off + 2, none⟩ = some (.int .i64 x.drift)
  c3 : w.cell? ⟨b, off + 3, none⟩ = some (.bool x.pas)
/-- Block b holds an entry. -/
def NdAt (T : Nat) (w : World) (b : Nat) (x : Nd) : Prop := w.heap[b]? = some (.cells #[.int .i64 x.id, .string x.name, .int .i64 x.drift, .bool x.pas] T (0, 0))
/-- The slice value at 'ao' of length n reads in w as the entries t. -/
structure RdN (w : World) (ao : Option Addr) (n : Nat) (t : List Nd) : Prop where
  len : t.length = n
  here : 0 < n → ∃ b off, ao = some ⟨b, off, none⟩ ∧ ∀ i, i < n → NdIn w b (off + i * 4) (ndOf t i)
/-- A slice of entries of the call's own. -/
def OwnN (E : Nat) (w : World) (base : Nat) (v : Value) (t : List Nd) : Prop := w.ownsRow base E 4 v t.length (t.flatMap ndCells)
/-- All names are short enough for this machine. -/
def smallN (t : List Nd) : Prop := ∀ i, i < t.length → (ndOf t i).name.size ≤ 1048576

section
variable {w w' : World} {E T base n b off : Nat} {ao : Option Addr} {v : Value} {t : List Nd} {x : Nd}
theorem NdIn.lt (h : NdIn w b off x) : b < w.heap.size := World.block_lt_of_cell? w _ h.c0
theorem NdIn.below {B : Nat} (h : NdIn w b off x) (hb : Below B w w') (hlt : b < B) : NdIn w' b off x :=
  ⟨(hb.cell (p := ⟨b, off, none⟩) hlt).trans h.c0, (hb.cell (p := ⟨b, off + 1, none⟩) hlt).trans h.c1, (hb.cell (p := ⟨b, off + 2, none⟩) hlt).trans h.c2, (hb.cell (p := ⟨b, off + 3, none⟩) hlt).trans h.c3⟩
theorem NdIn.grown {g : Option Nat} (h : NdIn w b off x) (hg : w.grownBy w' g) (hne : some b ≠ g) : NdIn w' b off x :=
  ⟨hg.cell h.c0 hne, hg.cell h.c1 hne, hg.cell h.c2 hne, hg.cell h.c3 hne⟩
theorem NdAt.in_ (h : NdAt T w b x) : NdIn w b 0 x := ⟨cell_of_row w b 0 _ _ (0, 0) h, cell_of_row w b 1 _ _ (0, 0) h, cell_of_row w b 2 _ _ (0, 0) h, cell_of_row w b 3 _ _ (0, 0) h⟩
theorem NdAt.f (h : NdAt T w b x) (i : Nat) : w.frozen? ⟨b, i, none⟩ = false := frozen_of_row w b i _ _ h
theorem NdAt.lt (h : NdAt T w b x) : b < w.heap.size := (Array.getElem?_eq_some_iff.1 h).1
theorem NdAt.below {B : Nat} (h : NdAt T w b x) (hb : Below B w w') (hlt : b < B) : NdAt T w' b x := (hb.block b hlt).trans h
theorem NdAt.grown {g : Option Nat} (h : NdAt T w b x) (hg : w.grownBy w' g) (hne : some b ≠ g) : NdAt T w' b x := (hg.block b h.lt hne).trans h
theorem NdAt.new (w : World) : NdAt T (w.alloc (.cells #[.int .i64 x.id, .string x.name, .int .i64 x.drift, .bool x.pas] T)) w.heap.size x := heap_alloc_new w _
/-- The struct that a call lays first reads as it was behind whatever leaves old memory alone. -/
theorem nd_new (h : Below (w.alloc (.cells #[.int .i64 x.id, .string x.name, .int .i64 x.drift, .bool x.pas] T)).heap.size (w.alloc (.cells #[.int .i64 x.id, .string x.name, .int .i64 x.drift, .bool x.pas] T)) w') : NdAt T w' w.heap.size x :=
  (NdAt.new w).below h (by simp)
theorem RdN.nil_ : RdN w ao 0 [] := ⟨rfl, fun h => absurd h (by omega)⟩
theorem RdN.at (h : RdN w ao n t) {i : Nat} (hi : i < n) : ∃ b off, ao = some ⟨b, off, none⟩ ∧ b < w.heap.size ∧ NdIn w b (off + i * 4) (ndOf t i) := by
  obtain ⟨b, off, e, hc⟩ := h.here (by omega)
  exact ⟨b, off, e, (hc i hi).lt, hc i hi⟩
theorem RdN.below (h : RdN w ao n t) (hb : Below w.heap.size w w') : RdN w' ao n t :=
  ⟨h.len, fun hn => by
    obtain ⟨b, off, e, hc⟩ := h.here hn
    exact ⟨b, off, e, fun i hi => (hc i hi).below hb (hc i hi).lt⟩⟩
theorem RdN.only {g : Option Nat} (h : RdN w ao n t) (ho : w.grownBy w' g) (hg : ∀ b off, ao = some ⟨b, off, none⟩ → g ≠ some b) : RdN w' ao n t :=
  ⟨h.len, fun hn => by
    obtain ⟨b, off, e, hc⟩ := h.here hn
    exact ⟨b, off, e, fun i hi => (hc i hi).grown ho (fun h => hg b off e h.symm)⟩⟩
theorem ndOf_take {k i : Nat} (h : i < k) : ndOf (t.take k) i = ndOf t i := by simp [ndOf, List.getD, h]
theorem RdN.take (h : RdN w ao n t) {k : Nat} (hk : k ≤ n) : RdN w ao k (t.take k) :=
  ⟨by rw [List.length_take, h.len]; omega, fun h0 => by
    obtain ⟨b, off, e, hc⟩ := h.here (by omega)
    exact ⟨b, off, e, fun i hi => by rw [ndOf_take hi]; exact hc i (by omega)⟩⟩
theorem flatN_len (t : List Nd) : (t.flatMap ndCells).length = t.length * 4 := by
  induction t with
  | nil => rfl
  | cons a r ih => rw [List.flatMap_cons, List.length_append, ih]; simp [ndCells]; omega
theorem flatN_get (t : List Nd) (i j : Nat) (hi : i < t.length) (hj : j < 4) : (t.flatMap ndCells)[i * 4 + j]? = (ndCells (ndOf t i))[j]? := by
  induction t generalizing i with
  | nil => simp at hi
  | cons a r ih =>
    cases i with
    | zero =>
      rw [List.flatMap_cons, List.getElem?_append_left (by simp [ndCells]; omega)]
      simp [ndOf]
    | succ i =>
      rw [List.flatMap_cons, List.getElem?_append_right (by simp [ndCells]; omega)]
      rw [show (i + 1) * 4 + j - (ndCells a).length = i * 4 + j from by simp [ndCells]; omega, ih i (by simpa using hi)]
      simp [ndOf]
theorem OwnN.below (h : OwnN E w base v t) (hb : Below w.heap.size w w') : OwnN E w' base v t := by
  obtain ⟨h1, h2⟩ := h
  refine ⟨h1, ?_⟩
  rcases h2 with h2 | ⟨g, cap, cur, e, hg, hh, r⟩
  · exact .inl h2
  · exact .inr ⟨g, cap, cur, e, hg, by rw [hb.block g (Array.getElem?_eq_some_iff.1 hh).1]; exact hh, r⟩
theorem OwnN.more (h : OwnN E w base v t) {base' : Nat} (hb : base' ≤ base) : OwnN E w base' v t := by
  obtain ⟨h1, h2⟩ := h
  refine ⟨h1, ?_⟩
  rcases h2 with h2 | ⟨g, cap, cur, e, hg, r⟩
  · exact .inl h2
  · exact .inr ⟨g, cap, cur, e, Nat.le_trans hb hg, r⟩
theorem OwnN.block (h : OwnN E w base v t) : ∀ k, v.ownBlock = some k → base ≤ k ∧ k < w.heap.size := World.ownsRow.lt h
/-- What an owned slice of entries looks like. -/
theorem OwnN.form (h : OwnN E w base v t) : ∃ ao cap, v = .slice ao t.length cap ∧ RdN w ao t.length t ∧ t.length ≤ cap ∧ cap ≤ maxLen ∧ (v = .slice none 0 0 ∨ ∃ g, ao = some ⟨g, 0, none⟩ ∧ base ≤ g ∧ g < w.heap.size) := by
  have h0 := h
  obtain ⟨h1, h2⟩ := h
  rcases h2 with ⟨rfl, h2⟩ | ⟨g, cap, cur, rfl, hg, hh, hn, hcap, hsz, htake⟩
  · have : t = [] := List.length_eq_zero_iff.1 h2
    subst this
    exact ⟨none, 0, rfl, RdN.nil_, Nat.le_refl _, by unfold maxLen; omega, .inl rfl⟩
  · unfold OwnN at h0
    have hc : ∀ i j, i < t.length → j < 4 → w.cell? ⟨g, 0 + i * 4 + j, none⟩ = (ndCells (ndOf t i))[j]? := fun i j hi hj => by
      rw [Nat.zero_add, World.ownsRow.cellAt h0 (i * 4 + j) (by omega), flatN_get t i j hi hj]
    exact ⟨_, cap, rfl, ⟨rfl, fun _ => ⟨g, 0, rfl, fun i hi => ⟨hc i 0 hi (by omega), hc i 1 hi (by omega), hc i 2 hi (by omega), hc i 3 hi (by omega)⟩⟩⟩, hn, hcap, .inr ⟨g, rfl, hg, (Array.getElem?_eq_some_iff.1 hh).1⟩⟩
theorem OwnN.cap {cap : Nat} (h : OwnN E w base (.slice ao n cap) t) : n ≤ cap ∧ cap ≤ 9223372036854775807 := by
  obtain ⟨ao', cap', e, -, h1, h2, -⟩ := h.form
  cases e
  unfold maxLen at h2
  exact ⟨h1, by omega⟩
theorem OwnN.of_alloc_nil (hE : base ≤ w.heap.size) : OwnN E (w.alloc (.cells #[] E)) base (.slice (some ⟨w.heap.size, 0, none⟩) 0 0) [] :=
  World.ownsRow_made w #[] 0 hE (by unfold maxLen; omega) rfl
theorem OwnN.nil_ : OwnN E w base (.slice none 0 0) [] := World.ownsRow_nil _ _ _ _
theorem OwnN.get (h : OwnN E w base v t) : ∃ ao cap, v = .slice ao t.length cap ∧ OwnN E w base (.slice ao t.length cap) t ∧ RdN w ao t.length t := by
  obtain ⟨ao, cap, rfl, r, -, -, -⟩ := h.form
  exact ⟨ao, cap, rfl, h, r⟩
theorem OwnN.only {g : Option Nat} (h : OwnN E w base v t) (ho : w.grownBy w' g) (hg : v.ownBlock = none ∨ v.ownBlock ≠ g) : OwnN E w' base v t := World.ownsRow.kept h ho hg
end

/-- What a call leaves that makes one slice of entries; and a number or two beside it. -/
def MakesN (E : Nat) (w : World) (t : List Nd) (e : Ending) (w' : World) : Prop :=
  ∃ v, e = .returned v ∧ OwnN E w' w.heap.size v t ∧ Below w.heap.size w w'
def MakesN2 (E : Nat) (w : World) (t : List Nd) (c : Int) (e : Ending) (w' : World) : Prop :=
  ∃ v, e = .returned (.tuple #[v, .int .i64 c]) ∧ OwnN E w' w.heap.size v t ∧ Below w.heap.size w w'
def MakesN3 (E : Nat) (w : World) (t : List Nd) (c d : Int) (e : Ending) (w' : World) : Prop :=
  ∃ v, e = .returned (.tuple #[v, .int .i64 c, .int .i64 d]) ∧ OwnN E w' w.heap.size v t ∧ Below w.heap.size w w'
section
variable {w w' : World} {E : Nat} {t : List Nd} {e : Ending} {c d : Int}
theorem MakesN.get (h : MakesN E w t e w') : ∃ ao cap, e = .returned (.slice ao t.length cap) ∧ OwnN E w' w.heap.size (.slice ao t.length cap) t ∧ RdN w' ao t.length t ∧ Below w.heap.size w w' := by
  obtain ⟨v, rfl, o, b⟩ := h
  obtain ⟨ao, cap, rfl, o, r⟩ := o.get
  exact ⟨ao, cap, rfl, o, r, b⟩
theorem MakesN2.get (h : MakesN2 E w t c e w') : ∃ ao cap, e = .returned (.tuple #[.slice ao t.length cap, .int .i64 c]) ∧ OwnN E w' w.heap.size (.slice ao t.length cap) t ∧ RdN w' ao t.length t ∧ Below w.heap.size w w' := by
  obtain ⟨v, rfl, o, b⟩ := h
  obtain ⟨ao, cap, rfl, o, r⟩ := o.get
  exact ⟨ao, cap, rfl, o, r, b⟩
theorem MakesN3.get (h : MakesN3 E w t c d e w') : ∃ ao cap, e = .returned (.tuple #[.slice ao t.length cap, .int .i64 c, .int .i64 d]) ∧ OwnN E w' w.heap.size (.slice ao t.length cap) t ∧ RdN w' ao t.length t ∧ Below w.heap.size w w' := by
  obtain ⟨v, rfl, o, b⟩ := h
  obtain ⟨ao, cap, rfl, o, r⟩ := o.get
  exact ⟨ao, cap, rfl, o, r, b⟩
end
end Go.Proofs.Ytpedlofckbplmaa
