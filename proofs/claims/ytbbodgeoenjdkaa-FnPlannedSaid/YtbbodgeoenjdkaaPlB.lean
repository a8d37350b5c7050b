/-
  Booking in memory: 2 numbers: what reads as one, as a list of them; what a call owns; made, written, appended to; among a law's arguments. No program is named here.
-/
import Derived.Test.YtbbodgeoenjdkaaPl0
import Derived.Test.YtbbodgeoenjdkaaHl
import Derived.Test.YtbbodgeoenjdkaaFourA
import Derived.Test.YtbbodgeoenjdkaaEigE
import Derived.Deep.Slices
import Derived.Lib.SmallJoins
import Derived.ChangeArms
namespace Go.Proofs.Ytbbodgeoenjdkaa
open Go.RowKit Go.Joins Go.ChangeShapes Go.WideShapes Go.Deep

def bkVal (x : Bk) : Value := .agg #[.int .i64 x.slot, .int .i64 x.phase]
def bkCells (x : Bk) : List Value := [.int .i64 x.slot, .int .i64 x.phase]
def bkOf (t : List Bk) (i : Nat) : Bk := t.getD i Bk.zero
theorem bkOf_get {t : List Bk} {i : Nat} (h : i < t.length) : bkOf t i = t[i] := by simp [bkOf, List.getD, List.getElem?_eq_getElem h]
theorem bkOf_cons (a : Bk) (r : List Bk) (i : Nat) : bkOf (a :: r) (i + 1) = bkOf r i := by simp [bkOf]
theorem bkOf_zero (a : Bk) (r : List Bk) : bkOf (a :: r) 0 = a := by simp [bkOf]
/-- The cells from a place on. -/
structure BkIn (w : World) (b off : Nat) (x : Bk) : Prop where
  c0 : w.cell? ⟨b, off, none⟩ = some (.int .i64 x.slot)
  c1 : w.cell? ⟨b, off + 1, none⟩ = some (.int .i64 x.phase)
/-- Block b holds one. -/
def BkBk (T : Nat) (w : World) (b : Nat) (x : Bk) : Prop := w.heap[b]? = some (.cells #[.int .i64 x.slot, .int .i64 x.phase] T (0, 0))
/-- The slice value at 'ao' of length n reads in w as the list t. -/
structure RdBk (w : World) (ao : Option Addr) (n : Nat) (t : List Bk) : Prop where
  len : t.length = n
  here : 0 < n → ∃ b off, ao = some ⟨b, off, none⟩ ∧ ∀ i, i < n → BkIn w b (off + i * 2) (bkOf t i)
/-- A slice of the call's own. -/
def OwnBk (E : Nat) (w : World) (base : Nat) (v : Value) (t : List Bk) : Prop := w.ownsRow base E 2 v t.length (t.flatMap bkCells)
def setBk (w : World) (b off : Nat) (x : Bk) : World := ((w.setCell ⟨b, off, none⟩ (.int .i64 x.slot)).setCell ⟨b, off + 1, none⟩ (.int .i64 x.phase))
section
variable {w w' : World} {E T base n b off : Nat} {ao : Option Addr} {v : Value} {t : List Bk} {x : Bk}
theorem BkIn.lt (h : BkIn w b off x) : b < w.heap.size := World.block_lt_of_cell? w _ h.c0
theorem BkIn.all (h : BkIn w b off x) : w.cell? ⟨b, off, none⟩ = some (.int .i64 x.slot) ∧ w.cell? ⟨b, off + 1, none⟩ = some (.int .i64 x.phase) := ⟨h.c0, h.c1⟩
theorem BkIn.below {B : Nat} (h : BkIn w b off x) (hb : Below B w w') (hlt : b < B) : BkIn w' b off x :=
  ⟨(hb.cell (p := ⟨b, off, none⟩) hlt).trans h.c0, (hb.cell (p := ⟨b, off + 1, none⟩) hlt).trans h.c1⟩
theorem BkIn.grown {g : Option Nat} (h : BkIn w b off x) (hg : w.grownBy w' g) (hne : some b ≠ g) : BkIn w' b off x :=
  ⟨hg.cell h.c0 hne, hg.cell h.c1 hne⟩
theorem BkBk.in_ (h : BkBk T w b x) : BkIn w b 0 x := ⟨cell_of_row w b 0 _ _ (0, 0) h, cell_of_row w b 1 _ _ (0, 0) h⟩
theorem BkBk.all (h : BkBk T w b x) : w.cell? ⟨b, 0, none⟩ = some (.int .i64 x.slot) ∧ w.cell? ⟨b, 1, none⟩ = some (.int .i64 x.phase) := ⟨cell_of_row w b 0 _ _ (0, 0) h, cell_of_row w b 1 _ _ (0, 0) h⟩
theorem BkBk.f (h : BkBk T w b x) (i : Nat) : w.frozen? ⟨b, i, none⟩ = false := frozen_of_row w b i _ _ h
theorem BkBk.lt (h : BkBk T w b x) : b < w.heap.size := (Array.getElem?_eq_some_iff.1 h).1
theorem BkBk.below {B : Nat} (h : BkBk T w b x) (hb : Below B w w') (hlt : b < B) : BkBk T w' b x := (hb.block b hlt).trans h
theorem BkBk.grown {g : Option Nat} (h : BkBk T w b x) (hg : w.grownBy w' g) (hne : some b ≠ g) : BkBk T w' b x := (hg.block b h.lt hne).trans h
theorem BkBk.new (w : World) : BkBk T (w.alloc (.cells #[.int .i64 x.slot, .int .i64 x.phase] T)) w.heap.size x := heap_alloc_new w _
theorem BkBk.other (h : BkBk T w b x) {q i : Nat} {v : Value} (hne : b ≠ q) : BkBk T (w.setCell ⟨q, i, none⟩ v) b x := (heap_setCell_other _ _ _ _ hne).trans h
theorem BkBk.set0 (h : BkBk T w b x) (y : Int) : BkBk T (w.setCell ⟨b, 0, none⟩ (.int .i64 y)) b { x with slot := y } := by
  have := heap_setCell_same w b 0 _ _ (.int .i64 y) h
  simpa [BkBk] using this
theorem BkBk.set1 (h : BkBk T w b x) (y : Int) : BkBk T (w.setCell ⟨b, 1, none⟩ (.int .i64 y)) b { x with phase := y } := by
  have := heap_setCell_same w b 1 _ _ (.int .i64 y) h
  simpa [BkBk] using this
theorem below_setBk {B b off : Nat} {w : World} (hb : B ≤ b) (x : Bk) : Below B w (setBk w b off x) := (((Below.refl _ _).setCell hb _).setCell hb _)
theorem BkBk.put (h : BkBk T w b x) (y : Bk) : BkBk T (setBk w b 0 y) b y := ((h.set0 y.slot).set1 y.phase)
theorem RdBk.nil_ : RdBk w ao 0 [] := ⟨rfl, fun h => absurd h (by omega)⟩
theorem RdBk.at (h : RdBk w ao n t) {i : Nat} (hi : i < n) : ∃ b off, ao = some ⟨b, off, none⟩ ∧ b < w.heap.size ∧ BkIn w b (off + i * 2) (bkOf t i) := by
  obtain ⟨b, off, e, hc⟩ := h.here (by omega)
  exact ⟨b, off, e, (hc i hi).lt, hc i hi⟩
theorem RdBk.below (h : RdBk w ao n t) (hb : Below w.heap.size w w') : RdBk w' ao n t :=
  ⟨h.len, fun hn => by
    obtain ⟨b, off, e, hc⟩ := h.here hn
    exact ⟨b, off, e, fun i hi => (hc i hi).below hb (hc i hi).lt⟩⟩
theorem RdBk.only {g : Option Nat} (h : RdBk w ao n t) (ho : w.grownBy w' g) (hg : ∀ b off, ao = some ⟨b, off, none⟩ → g ≠ some b) : RdBk w' ao n t :=
  ⟨h.len, fun hn => by
    obtain ⟨b, off, e, hc⟩ := h.here hn
    exact ⟨b, off, e, fun i hi => (hc i hi).grown ho (fun h => hg b off e h.symm)⟩⟩
theorem bkOf_take {k i : Nat} (h : i < k) : bkOf (t.take k) i = bkOf t i := by simp [bkOf, List.getD, h]
theorem RdBk.take (h : RdBk w ao n t) {k : Nat} (hk : k ≤ n) : RdBk w ao k (t.take k) :=
  ⟨by rw [List.length_take, h.len]; omega, fun h0 => by
    obtain ⟨b, off, e, hc⟩ := h.here (by omega)
    exact ⟨b, off, e, fun i hi => by rw [bkOf_take hi]; exact hc i (by omega)⟩⟩
theorem flatBk_len (t : List Bk) : (t.flatMap bkCells).length = t.length * 2 := by
  induction t with
  | nil => rfl
  | cons a r ih => rw [List.flatMap_cons, List.length_append, ih]; simp [bkCells]; omega
theorem flatBk_get (t : List Bk) (i j : Nat) (hi : i < t.length) (hj : j < 2) : (t.flatMap bkCells)[i * 2 + j]? = (bkCells (bkOf t i))[j]? := by
  induction t generalizing i with
  | nil => simp at hi
  | cons a r ih =>
    cases i with
    | zero =>
      rw [List.flatMap_cons, List.getElem?_append_left (by simp [bkCells]; omega)]
      simp [bkOf]
    | succ i =>
      rw [List.flatMap_cons, List.getElem?_append_right (by simp [bkCells]; omega)]
      rw [show (i + 1) * 2 + j - (bkCells a).length = i * 2 + j from by simp [bkCells]; omega, ih i (by simpa using hi)]
      simp [bkOf]
theorem OwnBk.below (h : OwnBk E w base v t) (hb : Below w.heap.size w w') : OwnBk E w' base v t := ownsRow_below h hb
theorem OwnBk.more (h : OwnBk E w base v t) {base' : Nat} (hb : base' ≤ base) : OwnBk E w base' v t := ownsRow_more h hb
theorem OwnBk.block (h : OwnBk E w base v t) : ∀ k, v.ownBlock = some k → base ≤ k ∧ k < w.heap.size := World.ownsRow.lt h
/-- What an owned slice looks like. -/
theorem OwnBk.form (h : OwnBk E w base v t) : ∃ ao cap, v = .slice ao t.length cap ∧ RdBk w ao t.length t ∧ t.length ≤ cap ∧ cap ≤ maxLen ∧ (v = .slice none 0 0 ∨ ∃ g, ao = some ⟨g, 0, none⟩ ∧ base ≤ g ∧ g < w.heap.size) := by
  have h0 := h
  obtain ⟨h1, h2⟩ := h
  rcases h2 with ⟨rfl, h2⟩ | ⟨g, cap, cur, rfl, hg, hh, hn, hcap, hsz, htake⟩
  · have : t = [] := List.length_eq_zero_iff.1 h2
    subst this
    exact ⟨none, 0, rfl, RdBk.nil_, Nat.le_refl _, by unfold maxLen; omega, .inl rfl⟩
  · unfold OwnBk at h0
    have hc : ∀ i j, i < t.length → j < 2 → w.cell? ⟨g, 0 + i * 2 + j, none⟩ = (bkCells (bkOf t i))[j]? := fun i j hi hj => by
      rw [Nat.zero_add, World.ownsRow.cellAt h0 (i * 2 + j) (by omega), flatBk_get t i j hi hj]
    exact ⟨_, cap, rfl, ⟨rfl, fun _ => ⟨g, 0, rfl, fun i hi => ⟨hc i 0 hi (by omega), hc i 1 hi (by omega)⟩⟩⟩, hn, hcap, .inr ⟨g, rfl, hg, (Array.getElem?_eq_some_iff.1 hh).1⟩⟩
theorem OwnBk.cap {cap : Nat} (h : OwnBk E w base (.slice ao n cap) t) : n ≤ cap ∧ cap ≤ 9223372036854775807 := by
  obtain ⟨ao', cap', e, -, h1, h2, -⟩ := h.form
  cases e
  unfold maxLen at h2
  exact ⟨h1, by omega⟩
theorem OwnBk.of_alloc_nil (hE : base ≤ w.heap.size) : OwnBk E (w.alloc (.cells #[] E)) base (.slice (some ⟨w.heap.size, 0, none⟩) 0 0) [] :=
  World.ownsRow_made w #[] 0 hE (by unfold maxLen; omega) rfl
theorem OwnBk.nil_ : OwnBk E w base (.slice none 0 0) [] := World.ownsRow_nil _ _ _ _
theorem OwnBk.get (h : OwnBk E w base v t) : ∃ ao cap, v = .slice ao t.length cap ∧ OwnBk E w base (.slice ao t.length cap) t ∧ RdBk w ao t.length t := by
  obtain ⟨ao, cap, rfl, r, -, -, -⟩ := h.form
  exact ⟨ao, cap, rfl, h, r⟩
theorem OwnBk.only {g : Option Nat} (h : OwnBk E w base v t) (ho : w.grownBy w' g) (hg : v.ownBlock = none ∨ v.ownBlock ≠ g) : OwnBk E w' base v t := World.ownsRow.kept h ho hg
/-- Only a block below the base is written. -/
theorem OwnBk.old {p : Nat} (h : OwnBk E w base v t) (hg : w.grownBy w' (some p)) (hp : p < base) : OwnBk E w' base v t := by
  refine h.only hg ?_
  cases hk : v.ownBlock with
  | none => exact .inl rfl
  | some k => exact .inr (fun e => by cases e; have := (h.block _ hk).1; omega)
end
/-- What a call leaves that makes one slice; and a number beside it. -/
def MakesBk (E : Nat) (w : World) (t : List Bk) (e : Ending) (w' : World) : Prop :=
  ∃ v, e = .returned v ∧ OwnBk E w' w.heap.size v t ∧ Below w.heap.size w w'
def MakesBk2 (E : Nat) (w : World) (t : List Bk) (c : Int) (e : Ending) (w' : World) : Prop :=
  ∃ v, e = .returned (.tuple #[v, .int .i64 c]) ∧ OwnBk E w' w.heap.size v t ∧ Below w.heap.size w w'
section
variable {w w' : World} {E : Nat} {t : List Bk} {e : Ending} {c d : Int}
theorem MakesBk.get (h : MakesBk E w t e w') : ∃ ao cap, e = .returned (.slice ao t.length cap) ∧ OwnBk E w' w.heap.size (.slice ao t.length cap) t ∧ RdBk w' ao t.length t ∧ Below w.heap.size w w' := by
  obtain ⟨v, rfl, o, b⟩ := h
  obtain ⟨ao, cap, rfl, o, r⟩ := o.get
  exact ⟨ao, cap, rfl, o, r, b⟩
theorem MakesBk2.get (h : MakesBk2 E w t c e w') : ∃ ao cap, e = .returned (.tuple #[.slice ao t.length cap, .int .i64 c]) ∧ OwnBk E w' w.heap.size (.slice ao t.length cap) t ∧ RdBk w' ao t.length t ∧ Below w.heap.size w w' := by
  obtain ⟨v, rfl, o, b⟩ := h
  obtain ⟨ao, cap, rfl, o, r⟩ := o.get
  exact ⟨ao, cap, rfl, o, r, b⟩
end
theorem bkOf_set {t : List Bk} {k : Nat} (h : k < t.length) (y : Bk) : bkOf (t.set k y) k = y := by simp [bkOf, List.getD, h]
theorem flatBk_set : ∀ (t : List Bk) (k : Nat), k < t.length → ∀ (j : Nat) (u : Value) (y : Bk), bkCells y = (bkCells (bkOf t k)).set j u → j < 2 → (t.flatMap bkCells).set (k * 2 + j) u = (t.set k y).flatMap bkCells
  | [], _, h, _, _, _, _, _ => by simp at h
  | a :: r, 0, _, j, u, y, e, hj => by
    have e2 : bkOf (a :: r) 0 = a := by simp [bkOf]
    rw [e2] at e
    rw [List.set_cons_zero, List.flatMap_cons, List.flatMap_cons, e, Nat.zero_mul, Nat.zero_add]
    rw [List.set_append_left _ _ (by simp [bkCells]; omega)]
  | a :: r, k + 1, h, j, u, y, e, hj => by
    have e2 : bkOf (a :: r) (k + 1) = bkOf r k := by simp [bkOf]
    rw [e2] at e
    rw [List.set_cons_succ, List.flatMap_cons, List.flatMap_cons, List.set_append_right _ _ (by simp [bkCells]; omega)]
    rw [show (k + 1) * 2 + j - (bkCells a).length = k * 2 + j from by simp [bkCells]; omega, flatBk_set r k (by simpa using h) j u y e hj]
section
variable {E : Nat} {w : World} {base g n cap : Nat} {t : List Bk}
theorem OwnBk.in_ (ho : OwnBk E w base (.slice (some ⟨g, 0, none⟩) n cap) t) (hl : t.length = n) {k : Nat} (hk : k < n) : BkIn w g (k * 2) (bkOf t k) := by
  obtain ⟨ao, cap', e, r, -⟩ := ho.form
  cases e
  obtain ⟨b, off, e, -, h⟩ := r.at (i := k) (by omega)
  cases e
  rwa [Nat.zero_add] at h
theorem OwnBk.field (ho : OwnBk E w base (.slice (some ⟨g, 0, none⟩) n cap) t) (hl : t.length = n) {k : Nat} (hk : k < n) {j : Nat} (hj : j < 2) {u : Value} {y : Bk} (e : bkCells y = (bkCells (bkOf t k)).set j u) :
    w.frozen? ⟨g, k * 2 + j, none⟩ = false ∧ OwnBk E (w.setCell ⟨g, k * 2 + j, none⟩ u) base (.slice (some ⟨g, 0, none⟩) n cap) (t.set k y) ∧ Below base w (w.setCell ⟨g, k * 2 + j, none⟩ u) := by
  have hb := (ho.block g rfl).1
  unfold OwnBk at ho ⊢
  rw [hl] at ho
  refine ⟨World.ownsRow.frozenAt ho _, ?_, (Below.refl _ _).setCell (by exact hb) _⟩
  have h := (World.ownsRow.stored ho (k * 2 + j) u).1
  rw [flatBk_set t k (by omega) j u y e hj] at h
  rw [List.length_set, hl]
  exact h
theorem OwnBk.fz (ho : OwnBk E w base (.slice (some ⟨g, 0, none⟩) n cap) t) (hl : t.length = n) (j : Nat) : w.frozen? ⟨g, j, none⟩ = false := by
  unfold OwnBk at ho; rw [hl] at ho; exact World.ownsRow.frozenAt ho j
/-- A whole struct stored into a slice of the call's own. -/
theorem OwnBk.store (ho : OwnBk E w base (.slice (some ⟨g, 0, none⟩) n cap) t) (hl : t.length = n) {k : Nat} (hk : k < n) (x : Bk) :
    BkIn w g (k * 2) (bkOf t k) ∧ (∀ j, w.frozen? ⟨g, j, none⟩ = false) ∧
      OwnBk E (setBk w g (k * 2) x) base (.slice (some ⟨g, 0, none⟩) n cap) (t.set k x) ∧ Below base w (setBk w g (k * 2) x) := by
  have hin := ho.in_ hl hk
  have hkt : k < t.length := by omega
  generalize hz : bkOf t k = z at hin ⊢
  obtain ⟨-, o0, b0⟩ := ho.field (j := 0) (u := .int .i64 x.slot) (y := ⟨x.slot, z.phase⟩) hl hk (by omega) (by rw [hz]; rfl)
  obtain ⟨-, o1, b1⟩ := o0.field (j := 1) (u := .int .i64 x.phase) (y := ⟨x.slot, x.phase⟩) (by rw [List.length_set]; exact hl) hk (by omega) (by rw [bkOf_set hkt]; rfl)
  rw [List.set_set] at o1
  exact ⟨hin, fun j => ho.fz hl j, o1, (b0.trans b1)⟩
end
/-- The row of the program's table. -/
abbrev InfoBk (P : Program) (E : Nat) : Prop := (P.info? E).map (fun i => (i.zero, i.size, i.bytes)) = some (some (bkVal Bk.zero), 2, 16)
theorem info_parts_bk {P : Program} {E : Nat} (h : InfoBk P E) : ∃ i, P.info? E = some i ∧ i.zero = some (bkVal Bk.zero) ∧ i.size = 2 ∧ i.bytes = 16 := by
  unfold InfoBk at h
  cases hi : P.info? E with
  | none => rw [hi] at h; cases h
  | some i =>
    rw [hi] at h
    simp only [Option.map_some, Option.some.injEq, Prod.mk.injEq] at h
    exact ⟨i, rfl, h.1, h.2.1, h.2.2⟩
theorem cellsBk_zero : (bkVal Bk.zero).cells = #[.int .i64 0, .int .i64 0] := rfl
theorem madeBk (n : Nat) : (madeCells (bkVal Bk.zero).cells (n * 2)).toList = (List.replicate n Bk.zero).flatMap bkCells := by
  apply List.ext_getElem?
  intro i
  by_cases h : i < n * 2
  · have hi : i = (i / 2) * 2 + i % 2 := by omega
    have h4 : i % 2 < 2 := by omega
    conv => rhs; rw [hi]
    rw [flatBk_get _ _ _ (by rw [List.length_replicate]; omega) h4]
    have hz : bkOf (List.replicate n Bk.zero) (i / 2) = Bk.zero := by
      rw [bkOf_get (by rw [List.length_replicate]; omega), List.getElem_replicate]
    rw [hz, cellsBk_zero]
    unfold madeCells
    rw [Array.toList_map, List.getElem?_map, Array.toList_range, List.getElem?_range h]
    simp only [Option.map_some]
    have h5 : #[Value.int .i64 0, .int .i64 0].size = 2 := rfl
    rw [h5]
    generalize i % 2 = j at h4
    match j, h4 with
    | 0, _ => rfl
    | 1, _ => rfl
  · rw [List.getElem?_eq_none (by rw [Array.length_toList, size_madeCells]; omega), List.getElem?_eq_none (by rw [flatBk_len, List.length_replicate]; omega)]
section
variable {P : Program} {E T : Nat} (w : World) {ops : Array Oper} {rest : List Oper} {o : Oper} {a : Act} {Q : Exit → Act → World → Prop} {K : Act → World → Prop}
/-- 'make'. -/
theorem make_bk (hg : o.guard = none) (l c : Operand) (hop : o.op = Op.makeSlice T l c) (base : Nat) (ht : P.underlying T = some (.slice E)) (hi : InfoBk P E)
    (kl kc : IntKind) (L C : Int) (n : Nat) (hl : a.eval l = .int kl L) (hc : a.eval c = .int kc C) (hL : L = (n : Int)) (hC : C = (n : Int)) (hm : n ≤ 4294967296) (hb : base ≤ w.heap.size)
    (hK : ∀ w', OwnBk E w' base (.slice (some ⟨w.heap.size, 0, none⟩) n n) (List.replicate n Bk.zero) → Below base w w' → wpList P ops Q rest (a.put o.dst (.slice (some ⟨w.heap.size, 0, none⟩) n n)) w') :
    wpList P ops Q (o :: rest) a w := by
  obtain ⟨i0, hi, hz0, hz1, hz2⟩ := info_parts_bk hi
  refine wpList_make_full w hg l c T hop base E i0 (bkVal Bk.zero) 2 ht hi hz0 hz1 kl kc L C n hl hc hL hC (by rw [hz2]; omega) (by unfold maxLen; omega) hb ?_
  intro w' h1 h2
  refine hK w' ?_ ((Below.refl _ _).grown h2 hb (fun k h => by cases h))
  unfold OwnBk
  rw [List.length_replicate, ← madeBk]
  exact h1
/-- 'append(out, x)' of one onto a slice of the call's own, the operation by itself. -/
theorem app_bk (s x : Operand)
    (ho : o.op = .call { callee := .builtin .append, args := #[s, x], argTypes := #[T, T] })
    (base : Nat) (ht : P.underlying T = some (.slice E)) (hi : InfoBk P E)
    (v : Value) (t : List Bk) (hs : a.eval s = v) (hown : OwnBk E w base v t) (b off : Nat) (y : Bk) (c : Nat) (hx : a.eval x = .slice (some ⟨b, off, none⟩) 1 c) (hc : BkIn w b off y)
    (hlen : t.length ≤ 1073741824) (hbase : base ≤ w.heap.size)
    (h : ∀ v' w', OwnBk E w' base v' (t ++ [y]) → w.grownBy w' v.ownBlock → K (a.put o.dst v') w') : o.wp P a w K Q := by
  obtain ⟨i0, hi, hz0, hz1, hz2⟩ := info_parts_bk hi
  refine wp_append_own w s x T ho base E i0 (bkVal Bk.zero) 2 16 ht hi hz0 hz1 hz2 (by rw [cellsBk_zero]; rfl) (by decide) v t.length (t.flatMap bkCells) hs hown ⟨b, off, none⟩ 1 c (bkCells y) hx rfl ?_ ?_ (by unfold maxLen; omega) (by omega) hbase ?_
  · intro j u hj
    match j, hj with
    | 0, hj => simp [bkCells] at hj; subst hj; simpa [Addr.add] using hc.c0
    | 1, hj => simp [bkCells] at hj; subst hj; simpa [Addr.add] using hc.c1
    | j + 2, hj => simp [bkCells] at hj
  · intro u hu; simp [bkCells] at hu; rcases hu with rfl | rfl <;> rfl
  · intro v' w' h1 h2 _
    refine h v' w' ?_ h2
    unfold OwnBk
    rw [List.length_append, List.flatMap_append]
    simpa using h1
theorem append_bk (hgd : o.guard = none) (s x : Operand)
    (ho : o.op = .call { callee := .builtin .append, args := #[s, x], argTypes := #[T, T] })
    (base : Nat) (ht : P.underlying T = some (.slice E)) (hi : InfoBk P E)
    (v : Value) (t : List Bk) (hs : a.eval s = v) (hown : OwnBk E w base v t) (b off : Nat) (y : Bk) (c : Nat) (hx : a.eval x = .slice (some ⟨b, off, none⟩) 1 c) (hc : BkIn w b off y)
    (hlen : t.length ≤ 1073741824) (hbase : base ≤ w.heap.size)
    (h : ∀ v' w', OwnBk E w' base v' (t ++ [y]) → Below base w w' → wpList P ops Q rest (a.put o.dst v') w') : wpList P ops Q (o :: rest) a w :=
  wpList_plain hgd fun _ hK => app_bk w s x ho base ht hi v t hs hown b off y c hx hc hlen hbase fun v' w' h1 h2 => hK _ _ (h v' w' h1 ((Below.refl _ _).grown h2 hbase fun k hk => (hown.block k hk).1))
end
/-! ### among several slices of the call's own -/
def itsBk (E : Nat) (v : Value) (t : List Bk) : It := ⟨v, E, 2, t.length, t.flatMap bkCells⟩
section
variable {w0 w w' : World} {L L1 L2 : List It} {E : Nat} {v : Value} {t : List Bk}
theorem Hold.makeBk (h : Hold w0 w L) (o : OwnBk E w' w.heap.size v t) (b : Below w.heap.size w w') : Hold w0 w' (itsBk E v t :: L) := h.make (p := itsBk E v t) o b
theorem Hold.getBk_ (h : Hold w0 w (L1 ++ ([itsBk E v t] ++ L2))) : OwnBk E w w0.heap.size v t := h.own (itsBk E v t) (by simp)
theorem Hold.rdBk_ {ao : Option Addr} {n cap : Nat} (h : Hold w0 w (L1 ++ ([itsBk E (.slice ao n cap) t] ++ L2))) : RdBk w ao t.length t := by
  obtain ⟨ao', cap', e, -, r⟩ := h.getBk_.get
  cases e
  exact r
theorem Hold.markBk_ {u : List Bk} (h : Hold w0 w (L1 ++ ([itsBk E v t] ++ L2))) (o : OwnBk E w' w0.heap.size v u) (g : w.grownBy w' v.ownBlock) : Hold w0 w' (L1 ++ ([itsBk E v u] ++ L2)) :=
  Hold.mark (p := itsBk E v t) (q := itsBk E v u) L1 h rfl o g
end
/-! ### among a law's arguments -/
/-- Each number lies in its kind's range. -/
def bkWf (y : Bk) : Prop := (Lit.int .i64 y.slot).wf = true ∧ (Lit.int .i64 y.phase).wf = true
/-- A slice that came in: nil, or places that read as the list t. -/
def BkRow (w : World) (ao : Option Addr) (len cap : Nat) (t : List Bk) : Prop :=
  len ≤ cap ∧ cap ≤ maxLen ∧ RdBk w ao len t ∧ ∀ i, i < len → bkWf (bkOf t i)
theorem list_ofBk {p : Nat → Bk → Prop} : ∀ n : Nat, (∀ i, i < n → ∃ x, p i x) → ∃ t : List Bk, t.length = n ∧ ∀ i, i < n → p i (bkOf t i)
  | 0, _ => ⟨[], rfl, fun i h => absurd h (by omega)⟩
  | n + 1, h => by
    obtain ⟨t, hl, ht⟩ := list_ofBk n (fun i hi => h i (by omega))
    obtain ⟨x, hx⟩ := h n (by omega)
    refine ⟨t ++ [x], by rw [List.length_append, hl]; rfl, fun i hi => ?_⟩
    by_cases e : i = n
    · subst e
      have : bkOf (t ++ [x]) i = x := by simp [bkOf, List.getD, ← hl]
      rw [this]; exact hx
    · have : bkOf (t ++ [x]) i = bkOf t i := by simp [bkOf, List.getD, List.getElem?_append_left (show i < t.length by omega)]
      rw [this]; exact ht i (by omega)
theorem list_kBk {α : Type} {cs : List α} (h : cs.length = 2) : ∃ a0 a1, cs = [a0, a1] := by
  match cs, h with
  | [a0, a1], _ => exact ⟨a0, a1, rfl⟩
section
variable {H : Type} {enc : TypeId × Value → H} {P : Program} {w : World} {base : Nat} {spare : Nat → Bool} {held : Bool}
theorem bk_cells {e F : TypeId} {f0 f1 : Field} {n : Nat} {cs : List Value} {x : DataW H × List MemPlace} (he : P.underlying e = some (.struct #[f0, f1])) (hF : P.underlying F = some (.int .i64)) (hCF : P.cellsOf F = 1)
    (hfs : (f0.type = F ∧ f0.offset = 0) ∧ (f1.type = F ∧ f1.offset = 1))
    (hl : cs.length = 2) (h : DataW.trod enc P w base spare held n e cs = some x) : ∃ y : Bk, cs = bkCells y ∧ bkWf y ∧ x.2 = [] := by
  obtain ⟨c0, c1, rfl⟩ := list_kBk hl
  obtain ⟨xs, n', -, hx, -, hlen, hg⟩ := DataW.trod_struct he h
  obtain ⟨y0, y1, rfl⟩ := list_kBk hlen
  obtain ⟨h0, h1⟩ := hfs
  obtain ⟨n0, e0, p0, w0⟩ := int_at (y := y0) hF hCF h0 (by simpa using hg 0 f0 rfl)
  obtain ⟨n1, e1, p1, w1⟩ := int_at (y := y1) hF hCF h1 (by simpa using hg 1 f1 rfl)
  simp only [List.drop_zero, List.drop_succ_cons, List.take_succ_cons, List.take_zero, List.cons.injEq, and_true] at e0 e1
  subst e0 e1
  have h4 := congrArg Prod.snd hx
  simp only at h4
  exact ⟨⟨n0, n1⟩, rfl, ⟨w0, w1⟩, by simp_all⟩
theorem open_bks {T e F : TypeId} {f0 f1 : Field} {fuel : Nat} {cs : List Value} {x : DataW H × List MemPlace} (hT : P.underlying T = some (.slice e)) (he : P.underlying e = some (.struct #[f0, f1])) (hF : P.underlying F = some (.int .i64)) (hC : P.cellsOf e = 2) (hCF : P.cellsOf F = 1)
    (hfs : (f0.type = F ∧ f0.offset = 0) ∧ (f1.type = F ∧ f1.offset = 1))
    (h : DataW.trod enc P w base spare held fuel T cs = some x) :
    ∃ (ao : Option Addr) (len cap : Nat) (t : List Bk), cs = [.slice ao len cap] ∧ BkRow w ao len cap t := by
  rcases open_slice hT h with ⟨rfl, -⟩ | ⟨a, len, cap, m, n, D, Pl, rfl, -, hl, hm, hmm, -, hi⟩
  · exact ⟨none, 0, 0, [], rfl, Nat.le_refl _, by unfold maxLen; omega, RdBk.nil_, fun i h => absurd h (by omega)⟩
  · have hml : len ≤ m := by rw [hmm]; split <;> omega
    have hone : ∀ i, i < len → ∃ y : Bk, (∀ j, j < 2 → w.cell? ((a.add (i * 2)).add j) = (bkCells y)[j]?) ∧ bkWf y := by
      intro i hil
      obtain ⟨cs', hc, ht⟩ := hi i (by omega)
      rw [hC] at hc
      obtain ⟨-, hcl, hat⟩ := World.cells?_some hc
      obtain ⟨y, rfl, hw, -⟩ := bk_cells he hF hCF hfs hcl ht
      refine ⟨y, fun j hj => ?_, hw⟩
      have := hat j hj
      rw [this, List.getElem?_eq_getElem (by simp [bkCells]; omega)]
    obtain ⟨t, htl, ht⟩ := list_ofBk len hone
    refine ⟨some a, len, cap, t, rfl, hl, hm, ⟨htl, fun h0 => ?_⟩, fun i h => (ht i h).2⟩
    obtain ⟨b, off, spot⟩ := a
    have h00 : w.cell? (⟨b, off, spot⟩ : Addr) = (bkCells (bkOf t 0))[0]? := by simpa [Addr.add] using (ht 0 h0).1 0 (by omega)
    have hspot : spot = none := by
      have h3 : (bkCells (bkOf t 0))[0]? = some (.int .i64 (bkOf t 0).slot) := rfl
      rw [h3] at h00
      exact World.cell?_spot h00
    subst hspot
    refine ⟨b, off, rfl, fun i hil => ?_⟩
    have z := (ht i hil).1
    simp only [Addr.add_lit] at z
    exact ⟨z 0 (by omega), z 1 (by omega)⟩
end
end Go.Proofs.Ytbbodgeoenjdkaa
