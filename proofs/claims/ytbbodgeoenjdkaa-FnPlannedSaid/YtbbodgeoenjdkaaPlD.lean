/-
  Demand in memory: 3 numbers: what reads as one, as a list of them; what a call owns; made, written, appended to; among a law's arguments. No program is named here.
-/
import Derived.Test.YtbbodgeoenjdkaaPl0
import Derived.Test.YtbbodgeoenjdkaaHl
import Derived.Test.YtbbodgeoenjdkaaFourA
import Derived.Test.YtbbodgeoenjdkaaEigE
import Derived.Deep.Slices
import Derived.Lib.SmallJoins
import Derived.ChangeArms
namespace Go.Proofs.Ytbbodgeoenjdkaa
open Go.RowKit Go.Joins Go.ChangeShapes Go.WideShapes Go.Deep

def dmVal (x : Dm) : Value := .agg #[.int .i64 x.node, .int .i64 x.every, .int .i64 x.size]
def dmCells (x : Dm) : List Value := [.int .i64 x.node, .int .i64 x.every, .int .i64 x.size]
def dmOf (t : List Dm) (i : Nat) : Dm := t.getD i Dm.zero
theorem dmOf_get {t : List Dm} {i : Nat} (h : i < t.length) : dmOf t i = t[i] := by simp [dmOf, List.getD, List.getElem?_eq_getElem h]
theorem dmOf_cons (a : Dm) (r : List Dm) (i : Nat) : dmOf (a :: r) (i + 1) = dmOf r i := by simp [dmOf]
theorem dmOf_zero (a : Dm) (r : List Dm) : dmOf (a :: r) 0 = a := by simp [dmOf]
/-- The cells from a place on. -/
structure DmIn (w : World) (b off : Nat) (x : Dm) : Prop where
  c0 : w.cell? ⟨b, off, none⟩ = some (.int .i64 x.node)
  c1 : w.cell? ⟨b, off + 1, none⟩ = some (.int .i64 x.every)
  c2 : w.cell? ⟨b, off + 2, none⟩ = some (.int .i64 x.size)
/-- Block b holds one. -/
def DmBk (T : Nat) (w : World) (b : Nat) (x : Dm) : Prop := w.heap[b]? = some (.cells #[.int .i64 x.node, .int .i64 x.every, .int .i64 x.size] T (0, 0))
/-- The slice value at 'ao' of length n reads in w as the list t. -/
structure RdDm (w : World) (ao : Option Addr) (n : Nat) (t : List Dm) : Prop where
  len : t.length = n
  here : 0 < n → ∃ b off, ao = some ⟨b, off, none⟩ ∧ ∀ i, i < n → DmIn w b (off + i * 3) (dmOf t i)
/-- A slice of the call's own. -/
def OwnDm (E : Nat) (w : World) (base : Nat) (v : Value) (t : List Dm) : Prop := w.ownsRow base E 3 v t.length (t.flatMap dmCells)
def setDm (w : World) (b off : Nat) (x : Dm) : World := (((w.setCell ⟨b, off, none⟩ (.int .i64 x.node)).setCell ⟨b, off + 1, none⟩ (.int .i64 x.every)).setCell ⟨b, off + 2, none⟩ (.int .i64 x.size))
section
variable {w w' : World} {E T base n b off : Nat} {ao : Option Addr} {v : Value} {t : List Dm} {x : Dm}
theorem DmIn.lt (h : DmIn w b off x) : b < w.heap.size := World.block_lt_of_cell? w _ h.c0
theorem DmIn.all (h : DmIn w b off x) : w.cell? ⟨b, off, none⟩ = some (.int .i64 x.node) ∧ w.cell? ⟨b, off + 1, none⟩ = some (.int .i64 x.every) ∧ w.cell? ⟨b, off + 2, none⟩ = some (.int .i64 x.size) := ⟨h.c0, h.c1, h.c2⟩
theorem DmIn.below {B : Nat} (h : DmIn w b off x) (hb : Below B w w') (hlt : b < B) : DmIn w' b off x :=
  ⟨(hb.cell (p := ⟨b, off, none⟩) hlt).trans h.c0, (hb.cell (p := ⟨b, off + 1, none⟩) hlt).trans h.c1, (hb.cell (p := ⟨b, off + 2, none⟩) hlt).trans h.c2⟩
theorem DmIn.grown {g : Option Nat} (h : DmIn w b off x) (hg : w.grownBy w' g) (hne : some b ≠ g) : DmIn w' b off x :=
  ⟨hg.cell h.c0 hne, hg.cell h.c1 hne, hg.cell h.c2 hne⟩
theorem DmBk.in_ (h : DmBk T w b x) : DmIn w b 0 x := ⟨cell_of_row w b 0 _ _ (0, 0) h, cell_of_row w b 1 _ _ (0, 0) h, cell_of_row w b 2 _ _ (0, 0) h⟩
theorem DmBk.all (h : DmBk T w b x) : w.cell? ⟨b, 0, none⟩ = some (.int .i64 x.node) ∧ w.cell? ⟨b, 1, none⟩ = some (.int .i64 x.every) ∧ w.cell? ⟨b, 2, none⟩ = some (.int .i64 x.size) := ⟨cell_of_row w b 0 _ _ (0, 0) h, cell_of_row w b 1 _ _ (0, 0) h, cell_of_row w b 2 _ _ (0, 0) h⟩
theorem DmBk.f (h : DmBk T w b x) (i : Nat) : w.frozen? ⟨b, i, none⟩ = false := frozen_of_row w b i _ _ h
theorem DmBk.lt (h : DmBk T w b x) : b < w.heap.size := (Array.getElem?_eq_some_iff.1 h).1
theorem DmBk.below {B : Nat} (h : DmBk T w b x) (hb : Below B w w') (hlt : b < B) : DmBk T w' b x := (hb.block b hlt).trans h
theorem DmBk.grown {g : Option Nat} (h : DmBk T w b x) (hg : w.grownBy w' g) (hne : some b ≠ g) : DmBk T w' b x := (hg.block b h.lt hne).trans h
theorem DmBk.new (w : World) : DmBk T (w.alloc (.cells #[.int .i64 x.node, .int .i64 x.every, .int .i64 x.size] T)) w.heap.size x := heap_alloc_new w _
theorem DmBk.other (h : DmBk T w b x) {q i : Nat} {v : Value} (hne : b ≠ q) : DmBk T (w.setCell ⟨q, i, none⟩ v) b x := (heap_setCell_other _ _ _ _ hne).trans h
theorem DmBk.set0 (h : DmBk T w b x) (y : Int) : DmBk T (w.setCell ⟨b, 0, none⟩ (.int .i64 y)) b { x with node := y } := by
  have := heap_setCell_same w b 0 _ _ (.int .i64 y) h
  simpa [DmBk] using this
theorem DmBk.set1 (h : DmBk T w b x) (y : Int) : DmBk T (w.setCell ⟨b, 1, none⟩ (.int .i64 y)) b { x with every := y } := by
  have := heap_setCell_same w b 1 _ _ (.int .i64 y) h
  simpa [DmBk] using this
theorem DmBk.set2 (h : DmBk T w b x) (y : Int) : DmBk T (w.setCell ⟨b, 2, none⟩ (.int .i64 y)) b { x with size := y } := by
  have := heap_setCell_same w b 2 _ _ (.int .i64 y) h
  simpa [DmBk] using this
theorem below_setDm {B b off : Nat} {w : World} (hb : B ≤ b) (x : Dm) : Below B w (setDm w b off x) := ((((Below.refl _ _).setCell hb _).setCell hb _).setCell hb _)
theorem DmBk.put (h : DmBk T w b x) (y : Dm) : DmBk T (setDm w b 0 y) b y := (((h.set0 y.node).set1 y.every).set2 y.size)
theorem RdDm.nil_ : RdDm w ao 0 [] := ⟨rfl, fun h => absurd h (by omega)⟩
theorem RdDm.at (h : RdDm w ao n t) {i : Nat} (hi : i < n) : ∃ b off, ao = some ⟨b, off, none⟩ ∧ b < w.heap.size ∧ DmIn w b (off + i * 3) (dmOf t i) := by
  obtain ⟨b, off, e, hc⟩ := h.here (by omega)
  exact ⟨b, off, e, (hc i hi).lt, hc i hi⟩
theorem RdDm.below (h : RdDm w ao n t) (hb : Below w.heap.size w w') : RdDm w' ao n t :=
  ⟨h.len, fun hn => by
    obtain ⟨b, off, e, hc⟩ := h.here hn
    exact ⟨b, off, e, fun i hi => (hc i hi).below hb (hc i hi).lt⟩⟩
theorem RdDm.only {g : Option Nat} (h : RdDm w ao n t) (ho : w.grownBy w' g) (hg : ∀ b off, ao = some ⟨b, off, none⟩ → g ≠ some b) : RdDm w' ao n t :=
  ⟨h.len, fun hn => by
    obtain ⟨b, off, e, hc⟩ := h.here hn
    exact ⟨b, off, e, fun i hi => (hc i hi).grown ho (fun h => hg b off e h.symm)⟩⟩
theorem dmOf_take {k i : Nat} (h : i < k) : dmOf (t.take k) i = dmOf t i := by simp [dmOf, List.getD, h]
theorem RdDm.take (h : RdDm w ao n t) {k : Nat} (hk : k ≤ n) : RdDm w ao k (t.take k) :=
  ⟨by rw [List.length_take, h.len]; omega, fun h0 => by
    obtain ⟨b, off, e, hc⟩ := h.here (by omega)
    exact ⟨b, off, e, fun i hi => by rw [dmOf_take hi]; exact hc i (by omega)⟩⟩
theorem flatDm_len (t : List Dm) : (t.flatMap dmCells).length = t.length * 3 := by
  induction t with
  | nil => rfl
  | cons a r ih => rw [List.flatMap_cons, List.length_append, ih]; simp [dmCells]; omega
theorem flatDm_get (t : List Dm) (i j : Nat) (hi : i < t.length) (hj : j < 3) : (t.flatMap dmCells)[i * 3 + j]? = (dmCells (dmOf t i))[j]? := by
  induction t generalizing i with
  | nil => simp at hi
  | cons a r ih =>
    cases i with
    | zero =>
      rw [List.flatMap_cons, List.getElem?_append_left (by simp [dmCells]; omega)]
      simp [dmOf]
    | succ i =>
      rw [List.flatMap_cons, List.getElem?_append_right (by simp [dmCells]; omega)]
      rw [show (i + 1) * 3 + j - (dmCells a).length = i * 3 + j from by simp [dmCells]; omega, ih i (by simpa using hi)]
      simp [dmOf]
theorem OwnDm.below (h : OwnDm E w base v t) (hb : Below w.heap.size w w') : OwnDm E w' base v t := ownsRow_below h hb
theorem OwnDm.more (h : OwnDm E w base v t) {base' : Nat} (hb : base' ≤ base) : OwnDm E w base' v t := ownsRow_more h hb
theorem OwnDm.block (h : OwnDm E w base v t) : ∀ k, v.ownBlock = some k → base ≤ k ∧ k < w.heap.size := World.ownsRow.lt h
/-- What an owned slice looks like. -/
theorem OwnDm.form (h : OwnDm E w base v t) : ∃ ao cap, v = .slice ao t.length cap ∧ RdDm w ao t.length t ∧ t.length ≤ cap ∧ cap ≤ maxLen ∧ (v = .slice none 0 0 ∨ ∃ g, ao = some ⟨g, 0, none⟩ ∧ base ≤ g ∧ g < w.heap.size) := by
  have h0 := h
  obtain ⟨h1, h2⟩ := h
  rcases h2 with ⟨rfl, h2⟩ | ⟨g, cap, cur, rfl, hg, hh, hn, hcap, hsz, htake⟩
  · have : t = [] := List.length_eq_zero_iff.1 h2
    subst this
    exact ⟨none, 0, rfl, RdDm.nil_, Nat.le_refl _, by unfold maxLen; omega, .inl rfl⟩
  · unfold OwnDm at h0
    have hc : ∀ i j, i < t.length → j < 3 → w.cell? ⟨g, 0 + i * 3 + j, none⟩ = (dmCells (dmOf t i))[j]? := fun i j hi hj => by
      rw [Nat.zero_add, World.ownsRow.cellAt h0 (i * 3 + j) (by omega), flatDm_get t i j hi hj]
    exact ⟨_, cap, rfl, ⟨rfl, fun _ => ⟨g, 0, rfl, fun i hi => ⟨hc i 0 hi (by omega), hc i 1 hi (by omega), hc i 2 hi (by omega)⟩⟩⟩, hn, hcap, .inr ⟨g, rfl, hg, (Array.getElem?_eq_some_iff.1 hh).1⟩⟩
theorem OwnDm.cap {cap : Nat} (h : OwnDm E w base (.slice ao n cap) t) : n ≤ cap ∧ cap ≤ 9223372036854775807 := by
  obtain ⟨ao', cap', e, -, h1, h2, -⟩ := h.form
  cases e
  unfold maxLen at h2
  exact ⟨h1, by omega⟩
theorem OwnDm.of_alloc_nil (hE : base ≤ w.heap.size) : OwnDm E (w.alloc (.cells #[] E)) base (.slice (some ⟨w.heap.size, 0, none⟩) 0 0) [] :=
  World.ownsRow_made w #[] 0 hE (by unfold maxLen; omega) rfl
theorem OwnDm.nil_ : OwnDm E w base (.slice none 0 0) [] := World.ownsRow_nil _ _ _ _
theorem OwnDm.get (h : OwnDm E w base v t) : ∃ ao cap, v = .slice ao t.length cap ∧ OwnDm E w base (.slice ao t.length cap) t ∧ RdDm w ao t.length t := by
  obtain ⟨ao, cap, rfl, r, -, -, -⟩ := h.form
  exact ⟨ao, cap, rfl, h, r⟩
theorem OwnDm.only {g : Option Nat} (h : OwnDm E w base v t) (ho : w.grownBy w' g) (hg : v.ownBlock = none ∨ v.ownBlock ≠ g) : OwnDm E w' base v t := World.ownsRow.kept h ho hg
/-- Only a block below the base is written. -/
theorem OwnDm.old {p : Nat} (h : OwnDm E w base v t) (hg : w.grownBy w' (some p)) (hp : p < base) : OwnDm E w' base v t := by
  refine h.only hg ?_
  cases hk : v.ownBlock with
  | none => exact .inl rfl
  | some k => exact .inr (fun e => by cases e; have := (h.block _ hk).1; omega)
end
/-- What a call leaves that makes one slice; and a number beside it. -/
def MakesDm (E : Nat) (w : World) (t : List Dm) (e : Ending) (w' : World) : Prop :=
  ∃ v, e = .returned v ∧ OwnDm E w' w.heap.size v t ∧ Below w.heap.size w w'
def MakesDm2 (E : Nat) (w : World) (t : List Dm) (c : Int) (e : Ending) (w' : World) : Prop :=
  ∃ v, e = .returned (.tuple #[v, .int .i64 c]) ∧ OwnDm E w' w.heap.size v t ∧ Below w.heap.size w w'
section
variable {w w' : World} {E : Nat} {t : List Dm} {e : Ending} {c d : Int}
theorem MakesDm.get (h : MakesDm E w t e w') : ∃ ao cap, e = .returned (.slice ao t.length cap) ∧ OwnDm E w' w.heap.size (.slice ao t.length cap) t ∧ RdDm w' ao t.length t ∧ Below w.heap.size w w' := by
  obtain ⟨v, rfl, o, b⟩ := h
  obtain ⟨ao, cap, rfl, o, r⟩ := o.get
  exact ⟨ao, cap, rfl, o, r, b⟩
theorem MakesDm2.get (h : MakesDm2 E w t c e w') : ∃ ao cap, e = .returned (.tuple #[.slice ao t.length cap, .int .i64 c]) ∧ OwnDm E w' w.heap.size (.slice ao t.length cap) t ∧ RdDm w' ao t.length t ∧ Below w.heap.size w w' := by
  obtain ⟨v, rfl, o, b⟩ := h
  obtain ⟨ao, cap, rfl, o, r⟩ := o.get
  exact ⟨ao, cap, rfl, o, r, b⟩
end
theorem dmOf_set {t : List Dm} {k : Nat} (h : k < t.length) (y : Dm) : dmOf (t.set k y) k = y := by simp [dmOf, List.getD, h]
theorem flatDm_set : ∀ (t : List Dm) (k : Nat), k < t.length → ∀ (j : Nat) (u : Value) (y : Dm), dmCells y = (dmCells (dmOf t k)).set j u → j < 3 → (t.flatMap dmCells).set (k * 3 + j) u = (t.set k y).flatMap dmCells
  | [], _, h, _, _, _, _, _ => by simp at h
  | a :: r, 0, _, j, u, y, e, hj => by
    have e2 : dmOf (a :: r) 0 = a := by simp [dmOf]
    rw [e2] at e
    rw [List.set_cons_zero, List.flatMap_cons, List.flatMap_cons, e, Nat.zero_mul, Nat.zero_add]
    rw [List.set_append_left _ _ (by simp [dmCells]; omega)]
  | a :: r, k + 1, h, j, u, y, e, hj => by
    have e2 : dmOf (a :: r) (k + 1) = dmOf r k := by simp [dmOf]
    rw [e2] at e
    rw [List.set_cons_succ, List.flatMap_cons, List.flatMap_cons, List.set_append_right _ _ (by simp [dmCells]; omega)]
    rw [show (k + 1) * 3 + j - (dmCells a).length = k * 3 + j from by simp [dmCells]; omega, flatDm_set r k (by simpa using h) j u y e hj]
section
variable {E : Nat} {w : World} {base g n cap : Nat} {t : List Dm}
theorem OwnDm.in_ (ho : OwnDm E w base (.slice (some ⟨g, 0, none⟩) n cap) t) (hl : t.length = n) {k : Nat} (hk : k < n) : DmIn w g (k * 3) (dmOf t k) := by
  obtain ⟨ao, cap', e, r, -⟩ := ho.form
  cases e
  obtain ⟨b, off, e, -, h⟩ := r.at (i := k) (by omega)
  cases e
  rwa [Nat.zero_add] at h
theorem OwnDm.field (ho : OwnDm E w base (.slice (some ⟨g, 0, none⟩) n cap) t) (hl : t.length = n) {k : Nat} (hk : k < n) {j : Nat} (hj : j < 3) {u : Value} {y : Dm} (e : dmCells y = (dmCells (dmOf t k)).set j u) :
    w.frozen? ⟨g, k * 3 + j, none⟩ = false ∧ OwnDm E (w.setCell ⟨g, k * 3 + j, none⟩ u) base (.slice (some ⟨g, 0, none⟩) n cap) (t.set k y) ∧ Below base w (w.setCell ⟨g, k * 3 + j, none⟩ u) := by
  have hb := (ho.block g rfl).1
  unfold OwnDm at ho ⊢
  rw [hl] at ho
  refine ⟨World.ownsRow.frozenAt ho _, ?_, (Below.refl _ _).setCell (by exact hb) _⟩
  have h := (World.ownsRow.stored ho (k * 3 + j) u).1
  rw [flatDm_set t k (by omega) j u y e hj] at h
  rw [List.length_set, hl]
  exact h
theorem OwnDm.fz (ho : OwnDm E w base (.slice (some ⟨g, 0, none⟩) n cap) t) (hl : t.length = n) (j : Nat) : w.frozen? ⟨g, j, none⟩ = false := by
  unfold OwnDm at ho; rw [hl] at ho; exact World.ownsRow.frozenAt ho j
/-- A whole struct stored into a slice of the call's own. -/
theorem OwnDm.store (ho : OwnDm E w base (.slice (some ⟨g, 0, none⟩) n cap) t) (hl : t.length = n) {k : Nat} (hk : k < n) (x : Dm) :
    DmIn w g (k * 3) (dmOf t k) ∧ (∀ j, w.frozen? ⟨g, j, none⟩ = false) ∧
      OwnDm E (setDm w g (k * 3) x) base (.slice (some ⟨g, 0, none⟩) n cap) (t.set k x) ∧ Below base w (setDm w g (k * 3) x) := by
  have hin := ho.in_ hl hk
  have hkt : k < t.length := by omega
  generalize hz : dmOf t k = z at hin ⊢
  obtain ⟨-, o0, b0⟩ := ho.field (j := 0) (u := .int .i64 x.node) (y := ⟨x.node, z.every, z.size⟩) hl hk (by omega) (by rw [hz]; rfl)
  obtain ⟨-, o1, b1⟩ := o0.field (j := 1) (u := .int .i64 x.every) (y := ⟨x.node, x.every, z.size⟩) (by rw [List.length_set]; exact hl) hk (by omega) (by rw [dmOf_set hkt]; rfl)
  rw [List.set_set] at o1
  obtain ⟨-, o2, b2⟩ := o1.field (j := 2) (u := .int .i64 x.size) (y := ⟨x.node, x.every, x.size⟩) (by rw [List.length_set]; exact hl) hk (by omega) (by rw [dmOf_set hkt]; rfl)
  rw [List.set_set] at o2
  exact ⟨hin, fun j => ho.fz hl j, o2, ((b0.trans b1).trans b2)⟩
end
/-- The row of the program's table. -/
abbrev InfoDm (P : Program) (E : Nat) : Prop := (P.info? E).map (fun i => (i.zero, i.size, i.bytes)) = some (some (dmVal Dm.zero), 3, 24)
theorem info_parts_dm {P : Program} {E : Nat} (h : InfoDm P E) : ∃ i, P.info? E = some i ∧ i.zero = some (dmVal Dm.zero) ∧ i.size = 3 ∧ i.bytes = 24 := by
  unfold InfoDm at h
  cases hi : P.info? E with
  | none => rw [hi] at h; cases h
  | some i =>
    rw [hi] at h
    simp only [Option.map_some, Option.some.injEq, Prod.mk.injEq] at h
    exact ⟨i, rfl, h.1, h.2.1, h.2.2⟩
theorem cellsDm_zero : (dmVal Dm.zero).cells = #[.int .i64 0, .int .i64 0, .int .i64 0] := rfl
theorem madeDm (n : Nat) : (madeCells (dmVal Dm.zero).cells (n * 3)).toList = (List.replicate n Dm.zero).flatMap dmCells := by
  apply List.ext_getElem?
  intro i
  by_cases h : i < n * 3
  · have hi : i = (i / 3) * 3 + i % 3 := by omega
    have h4 : i % 3 < 3 := by omega
    conv => rhs; rw [hi]
    rw [flatDm_get _ _ _ (by rw [List.length_replicate]; omega) h4]
    have hz : dmOf (List.replicate n Dm.zero) (i / 3) = Dm.zero := by
      rw [dmOf_get (by rw [List.length_replicate]; omega), List.getElem_replicate]
    rw [hz, cellsDm_zero]
    unfold madeCells
    rw [Array.toList_map, List.getElem?_map, Array.toList_range, List.getElem?_range h]
    simp only [Option.map_some]
    have h5 : #[Value.int .i64 0, .int .i64 0, .int .i64 0].size = 3 := rfl
    rw [h5]
    generalize i % 3 = j at h4
    match j, h4 with
    | 0, _ => rfl
    | 1, _ => rfl
    | 2, _ => rfl
  · rw [List.getElem?_eq_none (by rw [Array.length_toList, size_madeCells]; omega), List.getElem?_eq_none (by rw [flatDm_len, List.length_replicate]; omega)]
section
variable {P : Program} {E T : Nat} (w : World) {ops : Array Oper} {rest : List Oper} {o : Oper} {a : Act} {Q : Exit → Act → World → Prop} {K : Act → World → Prop}
/-- 'make'. -/
theorem make_dm (hg : o.guard = none) (l c : Operand) (hop : o.op = Op.makeSlice T l c) (base : Nat) (ht : P.underlying T = some (.slice E)) (hi : InfoDm P E)
    (kl kc : IntKind) (L C : Int) (n : Nat) (hl : a.eval l = .int kl L) (hc : a.eval c = .int kc C) (hL : L = (n : Int)) (hC : C = (n : Int)) (hm : n ≤ 4294967296) (hb : base ≤ w.heap.size)
    (hK : ∀ w', OwnDm E w' base (.slice (some ⟨w.heap.size, 0, none⟩) n n) (List.replicate n Dm.zero) → Below base w w' → wpList P ops Q rest (a.put o.dst (.slice (some ⟨w.heap.size, 0, none⟩) n n)) w') :
    wpList P ops Q (o :: rest) a w := by
  obtain ⟨i0, hi, hz0, hz1, hz2⟩ := info_parts_dm hi
  refine wpList_make_full w hg l c T hop base E i0 (dmVal Dm.zero) 3 ht hi hz0 hz1 kl kc L C n hl hc hL hC (by rw [hz2]; omega) (by unfold maxLen; omega) hb ?_
  intro w' h1 h2
  refine hK w' ?_ ((Below.refl _ _).grown h2 hb (fun k h => by cases h))
  unfold OwnDm
  rw [List.length_replicate, ← madeDm]
  exact h1
/-- 'append(out, x)' of one onto a slice of the call's own, the operation by itself. -/
theorem app_dm (s x : Operand)
    (ho : o.op = .call { callee := .builtin .append, args := #[s, x], argTypes := #[T, T] })
    (base : Nat) (ht : P.underlying T = some (.slice E)) (hi : InfoDm P E)
    (v : Value) (t : List Dm) (hs : a.eval s = v) (hown : OwnDm E w base v t) (b off : Nat) (y : Dm) (c : Nat) (hx : a.eval x = .slice (some ⟨b, off, none⟩) 1 c) (hc : DmIn w b off y)
    (hlen : t.length ≤ 1073741824) (hbase : base ≤ w.heap.size)
    (h : ∀ v' w', OwnDm E w' base v' (t ++ [y]) → w.grownBy w' v.ownBlock → K (a.put o.dst v') w') : o.wp P a w K Q := by
  obtain ⟨i0, hi, hz0, hz1, hz2⟩ := info_parts_dm hi
  refine wp_append_own w s x T ho base E i0 (dmVal Dm.zero) 3 24 ht hi hz0 hz1 hz2 (by rw [cellsDm_zero]; rfl) (by decide) v t.length (t.flatMap dmCells) hs hown ⟨b, off, none⟩ 1 c (dmCells y) hx rfl ?_ ?_ (by unfold maxLen; omega) (by omega) hbase ?_
  · intro j u hj
    match j, hj with
    | 0, hj => simp [dmCells] at hj; subst hj; simpa [Addr.add] using hc.c0
    | 1, hj => simp [dmCells] at hj; subst hj; simpa [Addr.add] using hc.c1
    | 2, hj => simp [dmCells] at hj; subst hj; simpa [Addr.add] using hc.c2
    | j + 3, hj => simp [dmCells] at hj
  · intro u hu; simp [dmCells] at hu; rcases hu with rfl | rfl | rfl <;> rfl
  · intro v' w' h1 h2 _
    refine h v' w' ?_ h2
    unfold OwnDm
    rw [List.length_append, List.flatMap_append]
    simpa using h1
theorem append_dm (hgd : o.guard = none) (s x : Operand)
    (ho : o.op = .call { callee := .builtin .append, args := #[s, x], argTypes := #[T, T] })
    (base : Nat) (ht : P.underlying T = some (.slice E)) (hi : InfoDm P E)
    (v : Value) (t : List Dm) (hs : a.eval s = v) (hown : OwnDm E w base v t) (b off : Nat) (y : Dm) (c : Nat) (hx : a.eval x = .slice (some ⟨b, off, none⟩) 1 c) (hc : DmIn w b off y)
    (hlen : t.length ≤ 1073741824) (hbase : base ≤ w.heap.size)
    (h : ∀ v' w', OwnDm E w' base v' (t ++ [y]) → Below base w w' → wpList P ops Q rest (a.put o.dst v') w') : wpList P ops Q (o :: rest) a w :=
  wpList_plain hgd fun _ hK => app_dm w s x ho base ht hi v t hs hown b off y c hx hc hlen hbase fun v' w' h1 h2 => hK _ _ (h v' w' h1 ((Below.refl _ _).grown h2 hbase fun k hk => (hown.block k hk).1))
end
/-! ### among several slices of the call's own -/
def itsDm (E : Nat) (v : Value) (t : List Dm) : It := ⟨v, E, 3, t.length, t.flatMap dmCells⟩
section
variable {w0 w w' : World} {L L1 L2 : List It} {E : Nat} {v : Value} {t : List Dm}
theorem Hold.makeDm (h : Hold w0 w L) (o : OwnDm E w' w.heap.size v t) (b : Below w.heap.size w w') : Hold w0 w' (itsDm E v t :: L) := h.make (p := itsDm E v t) o b
theorem Hold.getDm_ (h : Hold w0 w (L1 ++ ([itsDm E v t] ++ L2))) : OwnDm E w w0.heap.size v t := h.own (itsDm E v t) (by simp)
theorem Hold.rdDm_ {ao : Option Addr} {n cap : Nat} (h : Hold w0 w (L1 ++ ([itsDm E (.slice ao n cap) t] ++ L2))) : RdDm w ao t.length t := by
  obtain ⟨ao', cap', e, -, r⟩ := h.getDm_.get
  cases e
  exact r
theorem Hold.markDm_ {u : List Dm} (h : Hold w0 w (L1 ++ ([itsDm E v t] ++ L2))) (o : OwnDm E w' w0.heap.size v u) (g : w.grownBy w' v.ownBlock) : Hold w0 w' (L1 ++ ([itsDm E v u] ++ L2)) :=
  Hold.mark (p := itsDm E v t) (q := itsDm E v u) L1 h rfl o g
end
/-! ### among a law's arguments -/
/-- Each number lies in its kind's range. -/
def dmWf (y : Dm) : Prop := (Lit.int .i64 y.node).wf = true ∧ (Lit.int .i64 y.every).wf = true ∧ (Lit.int .i64 y.size).wf = true
/-- A slice that came in: nil, or places that read as the list t. -/
def DmRow (w : World) (ao : Option Addr) (len cap : Nat) (t : List Dm) : Prop :=
  len ≤ cap ∧ cap ≤ maxLen ∧ RdDm w ao len t ∧ ∀ i, i < len → dmWf (dmOf t i)
theorem list_ofDm {p : Nat → Dm → Prop} : ∀ n : Nat, (∀ i, i < n → ∃ x, p i x) → ∃ t : List Dm, t.length = n ∧ ∀ i, i < n → p i (dmOf t i)
  | 0, _ => ⟨[], rfl, fun i h => absurd h (by omega)⟩
  | n + 1, h => by
    obtain ⟨t, hl, ht⟩ := list_ofDm n (fun i hi => h i (by omega))
    obtain ⟨x, hx⟩ := h n (by omega)
    refine ⟨t ++ [x], by rw [List.length_append, hl]; rfl, fun i hi => ?_⟩
    by_cases e : i = n
    · subst e
      have : dmOf (t ++ [x]) i = x := by simp [dmOf, List.getD, ← hl]
      rw [this]; exact hx
    · have : dmOf (t ++ [x]) i = dmOf t i := by simp [dmOf, List.getD, List.getElem?_append_left (show i < t.length by omega)]
      rw [this]; exact ht i (by omega)
theorem list_kDm {α : Type} {cs : List α} (h : cs.length = 3) : ∃ a0 a1 a2, cs = [a0, a1, a2] := by
  match cs, h with
  | [a0, a1, a2], _ => exact ⟨a0, a1, a2, rfl⟩
section
variable {H : Type} {enc : TypeId × Value → H} {P : Program} {w : World} {base : Nat} {spare : Nat → Bool} {held : Bool}
theorem dm_cells {e F : TypeId} {f0 f1 f2 : Field} {n : Nat} {cs : List Value} {x : DataW H × List MemPlace} (he : P.underlying e = some (.struct #[f0, f1, f2])) (hF : P.underlying F = some (.int .i64)) (hCF : P.cellsOf F = 1)
    (hfs : (f0.type = F ∧ f0.offset = 0) ∧ (f1.type = F ∧ f1.offset = 1) ∧ (f2.type = F ∧ f2.offset = 2))
    (hl : cs.length = 3) (h : DataW.trod enc P w base spare held n e cs = some x) : ∃ y : Dm, cs = dmCells y ∧ dmWf y ∧ x.2 = [] := by
  obtain ⟨c0, c1, c2, rfl⟩ := list_kDm hl
  obtain ⟨xs, n', -, hx, -, hlen, hg⟩ := DataW.trod_struct he h
  obtain ⟨y0, y1, y2, rfl⟩ := list_kDm hlen
  obtain ⟨h0, h1, h2⟩ := hfs
  obtain ⟨n0, e0, p0, w0⟩ := int_at (y := y0) hF hCF h0 (by simpa using hg 0 f0 rfl)
  obtain ⟨n1, e1, p1, w1⟩ := int_at (y := y1) hF hCF h1 (by simpa using hg 1 f1 rfl)
  obtain ⟨n2, e2, p2, w2⟩ := int_at (y := y2) hF hCF h2 (by simpa using hg 2 f2 rfl)
  simp only [List.drop_zero, List.drop_succ_cons, List.take_succ_cons, List.take_zero, List.cons.injEq, and_true] at e0 e1 e2
  subst e0 e1 e2
  have h4 := congrArg Prod.snd hx
  simp only at h4
  exact ⟨⟨n0, n1, n2⟩, rfl, ⟨w0, w1, w2⟩, by simp_all⟩
theorem open_dms {T e F : TypeId} {f0 f1 f2 : Field} {fuel : Nat} {cs : List Value} {x : DataW H × List MemPlace} (hT : P.underlying T = some (.slice e)) (he : P.underlying e = some (.struct #[f0, f1, f2])) (hF : P.underlying F = some (.int .i64)) (hC : P.cellsOf e = 3) (hCF : P.cellsOf F = 1)
    (hfs : (f0.type = F ∧ f0.offset = 0) ∧ (f1.type = F ∧ f1.offset = 1) ∧ (f2.type = F ∧ f2.offset = 2))
    (h : DataW.trod enc P w base spare held fuel T cs = some x) :
    ∃ (ao : Option Addr) (len cap : Nat) (t : List Dm), cs = [.slice ao len cap] ∧ DmRow w ao len cap t := by
  rcases open_slice hT h with ⟨rfl, -⟩ | ⟨a, len, cap, m, n, D, Pl, rfl, -, hl, hm, hmm, -, hi⟩
  · exact ⟨none, 0, 0, [], rfl, Nat.le_refl _, by unfold maxLen; omega, RdDm.nil_, fun i h => absurd h (by omega)⟩
  · have hml : len ≤ m := by rw [hmm]; split <;> omega
    have hone : ∀ i, i < len → ∃ y : Dm, (∀ j, j < 3 → w.cell? ((a.add (i * 3)).add j) = (dmCells y)[j]?) ∧ dmWf y := by
      intro i hil
      obtain ⟨cs', hc, ht⟩ := hi i (by omega)
      rw [hC] at hc
      obtain ⟨-, hcl, hat⟩ := World.cells?_some hc
      obtain ⟨y, rfl, hw, -⟩ := dm_cells he hF hCF hfs hcl ht
      refine ⟨y, fun j hj => ?_, hw⟩
      have := hat j hj
      rw [this, List.getElem?_eq_getElem (by simp [dmCells]; omega)]
    obtain ⟨t, htl, ht⟩ := list_ofDm len hone
    refine ⟨some a, len, cap, t, rfl, hl, hm, ⟨htl, fun h0 => ?_⟩, fun i h => (ht i h).2⟩
    obtain ⟨b, off, spot⟩ := a
    have h00 : w.cell? (⟨b, off, spot⟩ : Addr) = (dmCells (dmOf t 0))[0]? := by simpa [Addr.add] using (ht 0 h0).1 0 (by omega)
    have hspot : spot = none := by
      have h3 : (dmCells (dmOf t 0))[0]? = some (.int .i64 (dmOf t 0).node) := rfl
      rw [h3] at h00
      exact World.cell?_spot h00
    subst hspot
    refine ⟨b, off, rfl, fun i hil => ?_⟩
    have z := (ht i hil).1
    simp only [Addr.add_lit] at z
    exact ⟨z 0 (by omega), z 1 (by omega), z 2 (by omega)⟩
end
end Go.Proofs.Ytbbodgeoenjdkaa
