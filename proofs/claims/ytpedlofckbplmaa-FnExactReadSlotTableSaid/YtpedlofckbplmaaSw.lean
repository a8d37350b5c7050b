/-
  Entries of slot tables in memory: eight plain cells. No program is named here.
-/
import Derived.Test.YtpedlofckbplmaaSl1
import Derived.Test.YtpedlofckbplmaaBase
import Derived.Test.YtpedlofckbplmaaHl
namespace Go.Proofs.Ytpedlofckbplmaa
open Go.RowKit

def slVal (x : Sl) : Value := .agg #[.int .i64 x.mode, .int .i64 x.round, .int .i64 x.slot, .int .i64 x.desc.node, .int .i64 x.desc.kind, .int .i64 x.desc.size, .int .i64 x.desc.dur, .bool x.desc.chg]
def slCells (x : Sl) : List Value := [.int .i64 x.mode, .int .i64 x.round, .int .i64 x.slot, .int .i64 x.desc.node, .int .i64 x.desc.kind, .int .i64 x.desc.size, .int .i64 x.desc.dur, .bool x.desc.chg]
/-- The 8 cells from a place on hold an entry. -/
structure SlIn (w : World) (b off : Nat) (x : Sl) : Prop where
  c0 : w.cell? ⟨b, off, none⟩ = some (.int .i64 x.mode)
  c1 : w.cell? ⟨b, off + 1, none⟩ = some (.int .i64 x.round)
  c2 : w.cell? ⟨b, off + 2, none⟩ = some (.int .i64 x.slot)
  c3 : w.cell? ⟨b, off + 3, none⟩ = some (.int .i64 x.desc.node)
  c4 : w.cell? ⟨b, off + 4, none⟩ = some (.int .i64 x.desc.kind)
  c5 : w.cell? ⟨b, off + 5, none⟩ = some (.int .i64 x.desc.size)
  c6 : w.cell? ⟨b, off + 6, none⟩ = some (.int .i64 x.desc.dur)
  c7 : w.cell? ⟨b, off + 7, none⟩ = some (.bool x.desc.chg)
/-- Block b holds an entry. -/
def SlBk (T : Nat) (w : World) (b : Nat) (x : Sl) : Prop := w.heap[b]? = some (.cells #[.int .i64 x.mode, .int .i64 x.round, .int .i64 x.slot, .int .i64 x.desc.node, .int .i64 x.desc.kind, .int .i64 x.desc.size, .int .i64 x.desc.dur, .bool x.desc.chg] T (0, 0))
/-- The slice value at 'ao' of length n reads in w as the entries t. -/
structure RdE (w : World) (ao : Option Addr) (n : Nat) (t : List Sl) : Prop where
  len : t.length = n
  here : 0 < n → ∃ b off, ao = some ⟨b, off, none⟩ ∧ ∀ i, i < n → SlIn w b (off + i * 8) (slOf t i)
/-- A slice of entries of the call's own. -/
def OwnE (E : Nat) (w : World) (base : Nat) (v : Value) (t : List Sl) : Prop := w.ownsRow base E 8 v t.length (t.flatMap slCells)
def setSl (w : World) (b off : Nat) (x : Sl) : World := (((((((w.setCell ⟨b, off, none⟩ (.int .i64 x.mode)).setCell ⟨b, off + 1, none⟩ (.int .i64 x.round)).setCell ⟨b, off + 2, none⟩ (.int .i64 x.slot)).setCell ⟨b, off + 3, none⟩ (.int .i64 x.desc.node)).setCell ⟨b, off + 4, none⟩ (.int .i64 x.desc.kind)).setCell ⟨b, off + 5, none⟩ (.int .i64 x.desc.size)).setCell ⟨b, off + 6, none⟩ (.int .i64 x.desc.dur)).setCell ⟨b, off + 7, none⟩ (.bool x.desc.chg)
section
variable {w w' : World} {E T base n b off : Nat} {ao : Option Addr} {v : Value} {t : List Sl} {x : Sl}
theorem SlIn.lt (h : SlIn w b off x) : b < w.heap.size := World.block_lt_of_cell? w _ h.c0
theorem SlIn.below {B : Nat} (h : SlIn w b off x) (hb : Below B w w') (hlt : b < B) : SlIn w' b off x :=
  ⟨(hb.cell (p := ⟨b, off, none⟩) hlt).trans h.c0, (hb.cell (p := ⟨b, off + 1, none⟩) hlt).trans h.c1, (hb.cell (p := ⟨b, off + 2, none⟩) hlt).trans h.c2, (hb.cell (p := ⟨b, off + 3, none⟩) hlt).trans h.c3, (hb.cell (p := ⟨b, off + 4, none⟩) hlt).trans h.c4, (hb.cell (p := ⟨b, off + 5, none⟩) hlt).trans h.c5, (hb.cell (p := ⟨b, off + 6, none⟩) hlt).trans h.c6, (hb.cell (p := ⟨b, off + 7, none⟩) hlt).trans h.c7⟩
theorem SlIn.grown {g : Option Nat} (h : SlIn w b off x) (hg : w.grownBy w' g) (hne : some b ≠ g) : SlIn w' b off x :=
  ⟨hg.cell h.c0 hne, hg.cell h.c1 hne, hg.cell h.c2 hne, hg.cell h.c3 hne, hg.cell h.c4 hne, hg.cell h.c5 hne, hg.cell h.c6 hne, hg.cell h.c7 hne⟩
theorem SlBk.in_ (h : SlBk T w b x) : SlIn w b 0 x := ⟨cell_of_row w b 0 _ _ (0, 0) h, cell_of_row w b 1 _ _ (0, 0) h, cell_of_row w b 2 _ _ (0, 0) h, cell_of_row w b 3 _ _ (0, 0) h, cell_of_row w b 4 _ _ (0, 0) h, cell_of_row w b 5 _ _ (0, 0) h, cell_of_row w b 6 _ _ (0, 0) h, cell_of_row w b 7 _ _ (0, 0) h⟩
theorem SlBk.f (h : SlBk T w b x) (i : Nat) : w.frozen? ⟨b, i, none⟩ = false := frozen_of_row w b i _ _ h
theorem SlBk.lt (h : SlBk T w b x) : b < w.heap.size := (Array.getElem?_eq_some_iff.1 h).1
theorem SlBk.below {B : Nat} (h : SlBk T w b x) (hb : Below B w w') (hlt : b < B) : SlBk T w' b x := (hb.block b hlt).trans h
theorem SlBk.grown {g : Option Nat} (h : SlBk T w b x) (hg : w.grownBy w' g) (hne : some b ≠ g) : SlBk T w' b x := (hg.block b h.lt hne).trans h
theorem SlBk.new (w : World) : SlBk T (w.alloc (.cells #[.int .i64 x.mode, .int .i64 x.round, .int .i64 x.slot, .int .i64 x.desc.node, .int .i64 x.desc.kind, .int .i64 x.desc.size, .int .i64 x.desc.dur, .bool x.desc.chg] T)) w.heap.size x := heap_alloc_new w _
/-- The struct that a call lays first reads as it was behind whatever leaves old memory alone. -/
theorem sl_new (h : Below (w.alloc (.cells #[.int .i64 x.mode, .int .i64 x.round, .int .i64 x.slot, .int .i64 x.desc.node, .int .i64 x.desc.kind, .int .i64 x.desc.size, .int .i64 x.desc.dur, .bool x.desc.chg] T)).heap.size (w.alloc (.cells #[.int .i64 x.mode, .int .i64 x.round, .int .i64 x.slot, .int .i64 x.desc.node, .int .i64 x.desc.kind, .int .i64 x.desc.size, .int .i64 x.desc.dur, .bool x.desc.chg] T)) w') : SlBk T w' w.heap.size x :=
  (SlBk.new w).below h (by simp)
theorem below_setSl {B b off : Nat} {w : World} (hb : B ≤ b) (x : Sl) : Below B w (setSl w b off x) := ((((((((Below.refl _ _).setCell hb _).setCell hb _).setCell hb _).setCell hb _).setCell hb _).setCell hb _).setCell hb _).setCell hb _
theorem RdE.nil_ : RdE w ao 0 [] := ⟨rfl, fun h => absurd h (by omega)⟩
theorem RdE.at (h : RdE w ao n t) {i : Nat} (hi : i < n) : ∃ b off, ao = some ⟨b, off, none⟩ ∧ b < w.heap.size ∧ SlIn w b (off + i * 8) (slOf t i) := by
  obtain ⟨b, off, e, hc⟩ := h.here (by omega)
  exact ⟨b, off, e, (hc i hi).lt, hc i hi⟩
theorem RdE.below (h : RdE w ao n t) (hb : Below w.heap.size w w') : RdE w' ao n t :=
  ⟨h.len, fun hn => by
    obtain ⟨b, off, e, hc⟩ := h.here hn
    exact ⟨b, off, e, fun i hi => (hc i hi).below hb (hc i hi).lt⟩⟩
theorem RdE.only {g : Option Nat} (h : RdE w ao n t) (ho : w.grownBy w' g) (hg : ∀ b off, ao = some ⟨b, off, none⟩ → g ≠ some b) : RdE w' ao n t :=
  ⟨h.len, fun hn => by
    obtain ⟨b, off, e, hc⟩ := h.here hn
    exact ⟨b, off, e, fun i hi => (hc i hi).grown ho (fun h => hg b off e h.symm)⟩⟩
theorem slOf_take {k i : Nat} (h : i < k) : slOf (t.take k) i = slOf t i := by simp [slOf, List.getD, h]
theorem RdE.take (h : RdE w ao n t) {k : Nat} (hk : k ≤ n) : RdE w ao k (t.take k) :=
  ⟨by rw [List.length_take, h.len]; omega, fun h0 => by
    obtain ⟨b, off, e, hc⟩ := h.here (by omega)
    exact ⟨b, off, e, fun i hi => by rw [slOf_take hi]; exact hc i (by omega)⟩⟩
theorem flatE_len (t : List Sl) : (t.flatMap slCells).length = t.length * 8 := by
  induction t with
  | nil => rfl
  | cons a r ih => rw [List.flatMap_cons, List.length_append, ih]; simp [slCells]; omega
theorem flatE_get (t : List Sl) (i j : Nat) (hi : i < t.length) (hj : j < 8) : (t.flatMap slCells)[i * 8 + j]? = (slCells (slOf t i))[j]? := by
  induction t generalizing i with
  | nil => simp at hi
  | cons a r ih =>
    cases i with
    | zero =>
      rw [List.flatMap_cons, List.getElem?_append_left (by simp [slCells]; omega)]
      simp [slOf]
    | succ i =>
      rw [List.flatMap_cons, List.getElem?_append_right (by simp [slCells]; omega)]
      rw [show (i + 1) * 8 + j - (slCells a).length = i * 8 + j from by simp [slCells]; omega, ih i (by simpa using hi)]
      simp [slOf]
theorem OwnE.below (h : OwnE E w base v t) (hb : Below w.heap.size w w') : OwnE E w' base v t := by
  obtain ⟨h1, h2⟩ := h
  refine ⟨h1, ?_⟩
  rcases h2 with h2 | ⟨g, cap, cur, e, hg, hh, r⟩
  · exact .inl h2
  · exact .inr ⟨g, cap, cur, e, hg, by rw [hb.block g (Array.getElem?_eq_some_iff.1 hh).1]; exact hh, r⟩
theorem OwnE.more (h : OwnE E w base v t) {base' : Nat} (hb : base' ≤ base) : OwnE E w base' v t := by
  obtain ⟨h1, h2⟩ := h
  refine ⟨h1, ?_⟩
  rcases h2 with h2 | ⟨g, cap, cur, e, hg, r⟩
  · exact .inl h2
  · exact .inr ⟨g, cap, cur, e, Nat.le_trans hb hg, r⟩
theorem OwnE.block (h : OwnE E w base v t) : ∀ k, v.ownBlock = some k → base ≤ k ∧ k < w.heap.size := World.ownsRow.lt h
/-- What an owned slice of entries looks like. -/
theorem OwnE.form (h : OwnE E w base v t) : ∃ ao cap, v = .slice ao t.length cap ∧ RdE w ao t.length t ∧ t.length ≤ cap ∧ cap ≤ maxLen ∧ (v = .slice none 0 0 ∨ ∃ g, ao = some ⟨g, 0, none⟩ ∧ base ≤ g ∧ g < w.heap.size) := by
  have h0 := h
  obtain ⟨h1, h2⟩ := h
  rcases h2 with ⟨rfl, h2⟩ | ⟨g, cap, cur, rfl, hg, hh, hn, hcap, hsz, htake⟩
  · have : t = [] := List.length_eq_zero_iff.1 h2
    subst this
    exact ⟨none, 0, rfl, RdE.nil_, Nat.le_refl _, by unfold maxLen; omega, .inl rfl⟩
  · unfold OwnE at h0
    have hc : ∀ i j, i < t.length → j < 8 → w.cell? ⟨g, 0 + i * 8 + j, none⟩ = (slCells (slOf t i))[j]? := fun i j hi hj => by
      rw [Nat.zero_add, World.ownsRow.cellAt h0 (i * 8 + j) (by omega), flatE_get t i j hi hj]
    exact ⟨_, cap, rfl, ⟨rfl, fun _ => ⟨g, 0, rfl, fun i hi => ⟨hc i 0 hi (by omega), hc i 1 hi (by omega), hc i 2 hi (by omega), hc i 3 hi (by omega), hc i 4 hi (by omega), hc i 5 hi (by omega), hc i 6 hi (by omega), hc i 7 hi (by omega)⟩⟩⟩, hn, hcap, .inr ⟨g, rfl, hg, (Array.getElem?_eq_some_iff.1 hh).1⟩⟩
theorem OwnE.cap {cap : Nat} (h : OwnE E w base (.slice ao n cap) t) : n ≤ cap ∧ cap ≤ 9223372036854775807 := by
  obtain ⟨ao', cap', e, -, h1, h2, -⟩ := h.form
  cases e
  unfold maxLen at h2
  exact ⟨h1, by omega⟩
theorem OwnE.of_alloc_nil (hE : base ≤ w.heap.size) : OwnE E (w.alloc (.cells #[] E)) base (.slice (some ⟨w.heap.size, 0, none⟩) 0 0) [] :=
  World.ownsRow_made w #[] 0 hE (by unfold maxLen; omega) rfl
theorem OwnE.nil_ : OwnE E w base (.slice none 0 0) [] := World.ownsRow_nil _ _ _ _
theorem OwnE.get (h : OwnE E w base v t) : ∃ ao cap, v = .slice ao t.length cap ∧ OwnE E w base (.slice ao t.length cap) t ∧ RdE w ao t.length t := by
  obtain ⟨ao, cap, rfl, r, -, -, -⟩ := h.form
  exact ⟨ao, cap, rfl, h, r⟩
theorem OwnE.only {g : Option Nat} (h : OwnE E w base v t) (ho : w.grownBy w' g) (hg : v.ownBlock = none ∨ v.ownBlock ≠ g) : OwnE E w' base v t := World.ownsRow.kept h ho hg
/-- Only a block below the base is written. -/
theorem OwnE.old {p : Nat} (h : OwnE E w base v t) (hg : w.grownBy w' (some p)) (hp : p < base) : OwnE E w' base v t := by
  refine h.only hg ?_
  cases hk : v.ownBlock with
  | none => exact .inl rfl
  | some k => exact .inr (fun e => by cases e; have := (h.block _ hk).1; omega)
end

/-- What a call leaves that makes one slice of entries; and a number or two beside it. -/
def MakesE (E : Nat) (w : World) (t : List Sl) (e : Ending) (w' : World) : Prop :=
  ∃ v, e = .returned v ∧ OwnE E w' w.heap.size v t ∧ Below w.heap.size w w'
def MakesE2 (E : Nat) (w : World) (t : List Sl) (c : Int) (e : Ending) (w' : World) : Prop :=
  ∃ v, e = .returned (.tuple #[v, .int .i64 c]) ∧ OwnE E w' w.heap.size v t ∧ Below w.heap.size w w'
def MakesE3 (E : Nat) (w : World) (t : List Sl) (c d : Int) (e : Ending) (w' : World) : Prop :=
  ∃ v, e = .returned (.tuple #[v, .int .i64 c, .int .i64 d]) ∧ OwnE E w' w.heap.size v t ∧ Below w.heap.size w w'
section
variable {w w' : World} {E : Nat} {t : List Sl} {e : Ending} {c d : Int}
theorem MakesE.get (h : MakesE E w t e w') : ∃ ao cap, e = .returned (.slice ao t.length cap) ∧ OwnE E w' w.heap.size (.slice ao t.length cap) t ∧ RdE w' ao t.length t ∧ Below w.heap.size w w' := by
  obtain ⟨v, rfl, o, b⟩ := h
  obtain ⟨ao, cap, rfl, o, r⟩ := o.get
  exact ⟨ao, cap, rfl, o, r, b⟩
theorem MakesE2.get (h : MakesE2 E w t c e w') : ∃ ao cap, e = .returned (.tuple #[.slice ao t.length cap, .int .i64 c]) ∧ OwnE E w' w.heap.size (.slice ao t.length cap) t ∧ RdE w' ao t.length t ∧ Below w.heap.size w w' := by
  obtain ⟨v, rfl, o, b⟩ := h
  obtain ⟨ao, cap, rfl, o, r⟩ := o.get
  exact ⟨ao, cap, rfl, o, r, b⟩
theorem MakesE3.get (h : MakesE3 E w t c d e w') : ∃ ao cap, e = .returned (.tuple #[.slice ao t.length cap, .int .i64 c, .int .i64 d]) ∧ OwnE E w' w.heap.size (.slice ao t.length cap) t ∧ RdE w' ao t.length t ∧ Below w.heap.size w w' := by
  obtain ⟨v, rfl, o, b⟩ := h
  obtain ⟨ao, cap, rfl, o, r⟩ := o.get
  exact ⟨ao, cap, rfl, o, r, b⟩
end

/-! ### an entry's field written, an entry written -/
theorem slOf_set {t : List Sl} {k : Nat} (h : k < t.length) (y : Sl) : slOf (t.set k y) k = y := by simp [slOf, List.getD, h]
theorem flatE_set : ∀ (t : List Sl) (k : Nat), k < t.length → ∀ (j : Nat) (u : Value) (y : Sl), slCells y = (slCells (slOf t k)).set j u → j < 8 → (t.flatMap slCells).set (k * 8 + j) u = (t.set k y).flatMap slCells
  | [], _, h, _, _, _, _, _ => by simp at h
  | a :: r, 0, _, j, u, y, e, hj => by
    have e2 : slOf (a :: r) 0 = a := by simp [slOf]
    rw [e2] at e
    rw [List.set_cons_zero, List.flatMap_cons, List.flatMap_cons, e, Nat.zero_mul, Nat.zero_add]
    rw [List.set_append_left _ _ (by simp [slCells]; omega)]
  | a :: r, k + 1, h, j, u, y, e, hj => by
    have e2 : slOf (a :: r) (k + 1) = slOf r k := by simp [slOf]
    rw [e2] at e
    rw [List.set_cons_succ, List.flatMap_cons, List.flatMap_cons, List.set_append_right _ _ (by simp [slCells]; omega)]
    rw [show (k + 1) * 8 + j - (slCells a).length = k * 8 + j from by simp [slCells]; omega, flatE_set r k (by simpa using h) j u y e hj]
section
variable {E : Nat} {w : World} {base g n cap : Nat} {t : List Sl}
theorem OwnE.in_ (ho : OwnE E w base (.slice (some ⟨g, 0, none⟩) n cap) t) (hl : t.length = n) {k : Nat} (hk : k < n) : SlIn w g (k * 8) (slOf t k) := by
  obtain ⟨ao, cap', e, r, -⟩ := ho.form
  cases e
  obtain ⟨b, off, e, -, h⟩ := r.at (i := k) (by omega)
  cases e
  rwa [Nat.zero_add] at h
theorem OwnE.field (ho : OwnE E w base (.slice (some ⟨g, 0, none⟩) n cap) t) (hl : t.length = n) {k : Nat} (hk : k < n) {j : Nat} (hj : j < 8) {u : Value} {y : Sl} (e : slCells y = (slCells (slOf t k)).set j u) :
    w.frozen? ⟨g, k * 8 + j, none⟩ = false ∧ OwnE E (w.setCell ⟨g, k * 8 + j, none⟩ u) base (.slice (some ⟨g, 0, none⟩) n cap) (t.set k y) ∧ Below base w (w.setCell ⟨g, k * 8 + j, none⟩ u) := by
  have hb := (ho.block g rfl).1
  unfold OwnE at ho ⊢
  rw [hl] at ho
  refine ⟨World.ownsRow.frozenAt ho _, ?_, (Below.refl _ _).setCell (by exact hb) _⟩
  have h := (World.ownsRow.stored ho (k * 8 + j) u).1
  rw [flatE_set t k (by omega) j u y e hj] at h
  rw [List.length_set, hl]
  exact h
/-- A whole entry stored into a slice of the call's own. -/
theorem OwnE.store (ho : OwnE E w base (.slice (some ⟨g, 0, none⟩) n cap) t) (hl : t.length = n) {k : Nat} (hk : k < n) (x : Sl) :
    SlIn w g (k * 8) (slOf t k) ∧ (∀ j, w.frozen? ⟨g, j, none⟩ = false) ∧
      OwnE E (setSl w g (k * 8) x) base (.slice (some ⟨g, 0, none⟩) n cap) (t.set k x) ∧ Below base w (setSl w g (k * 8) x) := by
  have hin := ho.in_ hl hk
  have hkt : k < t.length := by omega
  generalize hz : slOf t k = z at hin ⊢

  obtain ⟨-, o0, b0⟩ := ho.field (j := 0) (u := .int .i64 x.mode) (y := ⟨x.mode, z.round, z.slot, ⟨z.desc.node, z.desc.kind, z.desc.size, z.desc.dur, z.desc.chg⟩⟩) hl hk (by omega) (by rw [hz]; rfl)
  obtain ⟨-, o1, b1⟩ := o0.field (j := 1) (u := .int .i64 x.round) (y := ⟨x.mode, x.round, z.slot, ⟨z.desc.node, z.desc.kind, z.desc.size, z.desc.dur, z.desc.chg⟩⟩) (by rw [List.length_set]; exact hl) hk (by omega) (by rw [slOf_set hkt]; rfl)
  rw [List.set_set] at o1
  obtain ⟨-, o2, b2⟩ := o1.field (j := 2) (u := .int .i64 x.slot) (y := ⟨x.mode, x.round, x.slot, ⟨z.desc.node, z.desc.kind, z.desc.size, z.desc.dur, z.desc.chg⟩⟩) (by rw [List.length_set]; exact hl) hk (by omega) (by rw [slOf_set hkt]; rfl)
  rw [List.set_set] at o2
  obtain ⟨-, o3, b3⟩ := o2.field (j := 3) (u := .int .i64 x.desc.node) (y := ⟨x.mode, x.round, x.slot, ⟨x.desc.node, z.desc.kind, z.desc.size, z.desc.dur, z.desc.chg⟩⟩) (by rw [List.length_set]; exact hl) hk (by omega) (by rw [slOf_set hkt]; rfl)
  rw [List.set_set] at o3
  obtain ⟨-, o4, b4⟩ := o3.field (j := 4) (u := .int .i64 x.desc.kind) (y := ⟨x.mode, x.round, x.slot, ⟨x.desc.node, x.desc.kind, z.desc.size, z.desc.dur, z.desc.chg⟩⟩) (by rw [List.length_set]; exact hl) hk (by omega) (by rw [slOf_set hkt]; rfl)
  rw [List.set_set] at o4
  obtain ⟨-, o5, b5⟩ := o4.field (j := 5) (u := .int .i64 x.desc.size) (y := ⟨x.mode, x.round, x.slot, ⟨x.desc.node, x.desc.kind, x.desc.size, z.desc.dur, z.desc.chg⟩⟩) (by rw [List.length_set]; exact hl) hk (by omega) (by rw [slOf_set hkt]; rfl)
  rw [List.set_set] at o5
  obtain ⟨-, o6, b6⟩ := o5.field (j := 6) (u := .int .i64 x.desc.dur) (y := ⟨x.mode, x.round, x.slot, ⟨x.desc.node, x.desc.kind, x.desc.size, x.desc.dur, z.desc.chg⟩⟩) (by rw [List.length_set]; exact hl) hk (by omega) (by rw [slOf_set hkt]; rfl)
  rw [List.set_set] at o6
  obtain ⟨-, o7, b7⟩ := o6.field (j := 7) (u := .bool x.desc.chg) (y := x) (by rw [List.length_set]; exact hl) hk (by omega) (by rw [slOf_set hkt]; rfl)
  rw [List.set_set] at o7
  have hfz : ∀ j, w.frozen? ⟨g, j, none⟩ = false := fun j => by unfold OwnE at ho; rw [hl] at ho; exact World.ownsRow.frozenAt ho j
  exact ⟨hin, hfz, o7, (((((((b0).trans b1).trans b2).trans b3).trans b4).trans b5).trans b6).trans b7⟩
end

/-! ### made, appended to -/
/-- The row of the program's table for an entry. -/
abbrev InfoSl (P : Program) (E : Nat) : Prop := (P.info? E).map (fun i => (i.zero, i.size, i.bytes)) = some (some (slVal Sl.zero), 8, 64)
theorem info_parts_sl {P : Program} {E : Nat} (h : InfoSl P E) : ∃ i, P.info? E = some i ∧ i.zero = some (slVal Sl.zero) ∧ i.size = 8 ∧ i.bytes = 64 := by
  unfold InfoSl at h
  cases hi : P.info? E with
  | none => rw [hi] at h; cases h
  | some i =>
    rw [hi] at h
    simp only [Option.map_some, Option.some.injEq, Prod.mk.injEq] at h
    exact ⟨i, rfl, h.1, h.2.1, h.2.2⟩
theorem cells_zero_sl : (slVal Sl.zero).cells = #[.int .i64 0, .int .i64 0, .int .i64 0, .int .i64 0, .int .i64 0, .int .i64 0, .int .i64 0, .bool false] := rfl
theorem madeE (n : Nat) : (madeCells (slVal Sl.zero).cells (n * 8)).toList = (List.replicate n Sl.zero).flatMap slCells := by
  apply List.ext_getElem?
  intro i
  by_cases h : i < n * 8
  · have hi : i = (i / 8) * 8 + i % 8 := by omega
    have h4 : i % 8 < 8 := by omega
    conv => rhs; rw [hi]
    rw [flatE_get _ _ _ (by rw [List.length_replicate]; omega) h4]
    have hz : slOf (List.replicate n Sl.zero) (i / 8) = Sl.zero := by
      rw [slOf_get (by rw [List.length_replicate]; omega), List.getElem_replicate]
    rw [hz, cells_zero_sl]
    unfold madeCells
    rw [Array.toList_map, List.getElem?_map, Array.toList_range, List.getElem?_range h]
    simp only [Option.map_some]
    have h5 : #[Value.int .i64 0, .int .i64 0, .int .i64 0, .int .i64 0, .int .i64 0, .int .i64 0, .int .i64 0, .bool false].size = 8 := rfl
    rw [h5]
    generalize i % 8 = j at h4
    match j, h4 with
    | 0, _ => rfl
    | 1, _ => rfl
    | 2, _ => rfl
    | 3, _ => rfl
    | 4, _ => rfl
    | 5, _ => rfl
    | 6, _ => rfl
    | 7, _ => rfl
  · rw [List.getElem?_eq_none (by rw [Array.length_toList, size_madeCells]; omega), List.getElem?_eq_none (by rw [flatE_len, List.length_replicate]; omega)]
section
variable {P : Program} {E T : Nat} (w : World) {ops : Array Oper} {rest : List Oper} {o : Oper} {a : Act} {Q : Exit → Act → World → Prop} {K : Act → World → Prop}
/-- 'make' of entries. -/
theorem make_sl (hg : o.guard = none) (l c : Operand) (hop : o.op = Op.makeSlice T l c) (base : Nat) (ht : P.underlying T = some (.slice E)) (hi : InfoSl P E)
    (kl kc : IntKind) (L C : Int) (n : Nat) (hl : a.eval l = .int kl L) (hc : a.eval c = .int kc C) (hL : L = (n : Int)) (hC : C = (n : Int)) (hm : n ≤ 4294967296) (hb : base ≤ w.heap.size)
    (hK : ∀ w', OwnE E w' base (.slice (some ⟨w.heap.size, 0, none⟩) n n) (List.replicate n Sl.zero) → Below base w w' → wpList P ops Q rest (a.put o.dst (.slice (some ⟨w.heap.size, 0, none⟩) n n)) w') :
    wpList P ops Q (o :: rest) a w := by
  obtain ⟨i0, hi, hz0, hz1, hz2⟩ := info_parts_sl hi
  refine wpList_make_full w hg l c T hop base E i0 (slVal Sl.zero) 8 ht hi hz0 hz1 kl kc L C n hl hc hL hC (by rw [hz2]; omega) (by unfold maxLen; omega) hb ?_
  intro w' h1 h2
  refine hK w' ?_ ((Below.refl _ _).grown h2 hb (fun k h => by cases h))
  unfold OwnE
  rw [List.length_replicate, ← madeE]
  exact h1
/-- 'append(out, x)' of one entry onto a slice of the call's own, the operation by itself. -/
theorem app_sl (s x : Operand)
    (ho : o.op = .call { callee := .builtin .append, args := #[s, x], argTypes := #[T, T] })
    (base : Nat) (ht : P.underlying T = some (.slice E)) (hi : InfoSl P E)
    (v : Value) (t : List Sl) (hs : a.eval s = v) (hown : OwnE E w base v t) (b off : Nat) (y : Sl) (c : Nat) (hx : a.eval x = .slice (some ⟨b, off, none⟩) 1 c) (hc : SlIn w b off y)
    (hlen : t.length ≤ 1073741824) (hbase : base ≤ w.heap.size)
    (h : ∀ v' w', OwnE E w' base v' (t ++ [y]) → w.grownBy w' v.ownBlock → K (a.put o.dst v') w') : o.wp P a w K Q := by
  obtain ⟨i0, hi, hz0, hz1, hz2⟩ := info_parts_sl hi
  refine wp_append_own w s x T ho base E i0 (slVal Sl.zero) 8 64 ht hi hz0 hz1 hz2 (by rw [cells_zero_sl]; rfl) (by decide) v t.length (t.flatMap slCells) hs hown ⟨b, off, none⟩ 1 c (slCells y) hx rfl ?_ ?_ (by unfold maxLen; omega) (by omega) hbase ?_
  · intro j u hj
    match j, hj with
    | 0, hj => simp [slCells] at hj; subst hj; simpa [Addr.add] using hc.c0
    | 1, hj => simp [slCells] at hj; subst hj; simpa [Addr.add] using hc.c1
    | 2, hj => simp [slCells] at hj; subst hj; simpa [Addr.add] using hc.c2
    | 3, hj => simp [slCells] at hj; subst hj; simpa [Addr.add] using hc.c3
    | 4, hj => simp [slCells] at hj; subst hj; simpa [Addr.add] using hc.c4
    | 5, hj => simp [slCells] at hj; subst hj; simpa [Addr.add] using hc.c5
    | 6, hj => simp [slCells] at hj; subst hj; simpa [Addr.add] using hc.c6
    | 7, hj => simp [slCells] at hj; subst hj; simpa [Addr.add] using hc.c7
    | j + 8, hj => simp [slCells] at hj
  · intro u hu; simp [slCells] at hu; rcases hu with rfl | rfl | rfl | rfl | rfl | rfl | rfl | rfl <;> rfl
  · intro v' w' h1 h2 _
    refine h v' w' ?_ h2
    unfold OwnE
    rw [List.length_append, List.flatMap_append]
    simpa using h1
theorem append_sl (hgd : o.guard = none) (s x : Operand)
    (ho : o.op = .call { callee := .builtin .append, args := #[s, x], argTypes := #[T, T] })
    (base : Nat) (ht : P.underlying T = some (.slice E)) (hi : InfoSl P E)
    (v : Value) (t : List Sl) (hs : a.eval s = v) (hown : OwnE E w base v t) (b off : Nat) (y : Sl) (c : Nat) (hx : a.eval x = .slice (some ⟨b, off, none⟩) 1 c) (hc : SlIn w b off y)
    (hlen : t.length ≤ 1073741824) (hbase : base ≤ w.heap.size)
    (h : ∀ v' w', OwnE E w' base v' (t ++ [y]) → Below base w w' → wpList P ops Q rest (a.put o.dst v') w') : wpList P ops Q (o :: rest) a w :=
  wpList_plain hgd fun _ hK => app_sl w s x ho base ht hi v t hs hown b off y c hx hc hlen hbase fun v' w' h1 h2 => hK _ _ (h v' w' h1 ((Below.refl _ _).grown h2 hbase fun k hk => (hown.block k hk).1))
end

/-! ### among several slices of the call's own -/
def itsE (E : Nat) (v : Value) (t : List Sl) : It := ⟨v, E, 8, t.length, t.flatMap slCells⟩
section
variable {w0 w w' : World} {L L1 L2 : List It} {E : Nat} {v : Value} {t : List Sl}
theorem Hold.makeE (h : Hold w0 w L) (o : OwnE E w' w.heap.size v t) (b : Below w.heap.size w w') : Hold w0 w' (itsE E v t :: L) := h.make (p := itsE E v t) o b
theorem Hold.getE_ (h : Hold w0 w (L1 ++ ([itsE E v t] ++ L2))) : OwnE E w w0.heap.size v t := h.own (itsE E v t) (by simp)
theorem Hold.rdE_ {ao : Option Addr} {n cap : Nat} (h : Hold w0 w (L1 ++ ([itsE E (.slice ao n cap) t] ++ L2))) : RdE w ao t.length t := by
  obtain ⟨ao', cap', e, -, r⟩ := h.getE_.get
  cases e
  exact r
theorem Hold.markE_ {u : List Sl} (h : Hold w0 w (L1 ++ ([itsE E v t] ++ L2))) (o : OwnE E w' w0.heap.size v u) (g : w.grownBy w' v.ownBlock) : Hold w0 w' (L1 ++ ([itsE E v u] ++ L2)) :=
  Hold.mark (p := itsE E v t) (q := itsE E v u) L1 h rfl o g
end
end Go.Proofs.Ytpedlofckbplmaa
