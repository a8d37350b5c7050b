/-
  Contracts of the program's, the model's and the laws' functions, and plain mathematics, on which a proof of this claim stands (part W).
-/

import Derived.Test.YthihjhidjnadaaaGreatP26N
import Derived.Test.YthihjhidjnadaaaGreatP26U
import Derived.Test.YthihjhidjnadaaaGreatP26V
import Derived.Test.YthihjhidjnadaaaGreatP26X
import Derived.Test.YthihjhidjnadaaaGreatP26I
import Derived.Test.YthihjhidjnadaaaGreatP26A
import Derived.Test.YthihjhidjnadaaaGreatP26L
namespace Go.Proofs.YthihjhidjnadaaaGreat
section
open Go.RowKit
def ssCells (x : Ss) : List Value := [.int .i64 x.t, .int .i64 x.m, .int .i64 x.r, .int .i64 x.s, .int .i64 x.k]
def ssOf (t : List Ss) (i : Nat) : Ss := t.getD i Ss.zero
theorem ssOf_get {t : List Ss} {i : Nat} (h : i < t.length) : ssOf t i = t[i] := by simp [ssOf, List.getD, List.getElem?_eq_getElem h]
structure SsIn (w : World) (b off : Nat) (x : Ss) : Prop where
  c0 : w.cell? ⟨b, off, none⟩ = some (.int .i64 x.t)
  c1 : w.cell? ⟨b, off + 1, none⟩ = some (.int .i64 x.m)
  c2 : w.cell? ⟨b, off + 2, none⟩ = some (.int .i64 x.r)
  c3 : w.cell? ⟨b, off + 3, none⟩ = some (.int .i64 x.s)
  c4 : w.cell? ⟨b, off + 4, none⟩ = some (.int .i64 x.k)
structure RdSs (w : World) (ao : Option Addr) (n : Nat) (t : List Ss) : Prop where
  len : t.length = n
  here : 0 < n → ∃ b off, ao = some ⟨b, off, none⟩ ∧ ∀ i, i < n → SsIn w b (off + i * 5) (ssOf t i)
def OwnSs (E : Nat) (w : World) (base : Nat) (v : Value) (t : List Ss) : Prop := w.ownsRow base E 5 v t.length (t.flatMap ssCells)
section
variable {w w' : World} {E T base n b off : Nat} {ao : Option Addr} {v : Value} {t : List Ss} {x : Ss}
theorem SsIn.lt (h : SsIn w b off x) : b < w.heap.size := World.block_lt_of_cell? w _ h.c0
theorem SsIn.below {B : Nat} (h : SsIn w b off x) (hb : Below B w w') (hlt : b < B) : SsIn w' b off x :=
  ⟨(hb.cell (p := ⟨b, off, none⟩) hlt).trans h.c0, (hb.cell (p := ⟨b, off + 1, none⟩) hlt).trans h.c1, (hb.cell (p := ⟨b, off + 2, none⟩) hlt).trans h.c2, (hb.cell (p := ⟨b, off + 3, none⟩) hlt).trans h.c3, (hb.cell (p := ⟨b, off + 4, none⟩) hlt).trans h.c4⟩
theorem SsIn.grown {g : Option Nat} (h : SsIn w b off x) (hg : w.grownBy w' g) (hne : some b ≠ g) : SsIn w' b off x :=
  ⟨hg.cell h.c0 hne, hg.cell h.c1 hne, hg.cell h.c2 hne, hg.cell h.c3 hne, hg.cell h.c4 hne⟩
theorem SsIn.of (h : StateAt T w b x.t x.m x.r x.s x.k) : SsIn w b 0 x := ⟨h.c0, h.c1, h.c2, h.c3, h.c4⟩
theorem RdSs.nil_ : RdSs w ao 0 [] := ⟨rfl, fun h => absurd h (by omega)⟩
theorem RdSs.at (h : RdSs w ao n t) {i : Nat} (hi : i < n) : ∃ b off, ao = some ⟨b, off, none⟩ ∧ b < w.heap.size ∧ SsIn w b (off + i * 5) (ssOf t i) := by
  obtain ⟨b, off, e, hc⟩ := h.here (by omega)
  exact ⟨b, off, e, (hc i hi).lt, hc i hi⟩
theorem RdSs.below (h : RdSs w ao n t) (hb : Below w.heap.size w w') : RdSs w' ao n t :=
  ⟨h.len, fun hn => by
    obtain ⟨b, off, e, hc⟩ := h.here hn
    exact ⟨b, off, e, fun i hi => (hc i hi).below hb (hc i hi).lt⟩⟩
theorem RdSs.only {g : Option Nat} (h : RdSs w ao n t) (ho : w.grownBy w' g) (hg : ∀ b off, ao = some ⟨b, off, none⟩ → g ≠ some b) : RdSs w' ao n t :=
  ⟨h.len, fun hn => by
    obtain ⟨b, off, e, hc⟩ := h.here hn
    exact ⟨b, off, e, fun i hi => (hc i hi).grown ho (fun h => hg b off e h.symm)⟩⟩
theorem ssOf_take {k i : Nat} (h : i < k) : ssOf (t.take k) i = ssOf t i := by simp [ssOf, List.getD, h]
theorem RdSs.take (h : RdSs w ao n t) {k : Nat} (hk : k ≤ n) : RdSs w ao k (t.take k) :=
  ⟨by rw [List.length_take, h.len]; omega, fun h0 => by
    obtain ⟨b, off, e, hc⟩ := h.here (by omega)
    exact ⟨b, off, e, fun i hi => by rw [ssOf_take hi]; exact hc i (by omega)⟩⟩
theorem flatSs_len (t : List Ss) : (t.flatMap ssCells).length = t.length * 5 := by
  induction t with
  | nil => rfl
  | cons a r ih => rw [List.flatMap_cons, List.length_append, ih]; simp [ssCells]; omega
theorem flatSs_get (t : List Ss) (i j : Nat) (hi : i < t.length) (hj : j < 5) : (t.flatMap ssCells)[i * 5 + j]? = (ssCells (ssOf t i))[j]? := by
  induction t generalizing i with
  | nil => simp at hi
  | cons a r ih =>
    cases i with
    | zero =>
      rw [List.flatMap_cons, List.getElem?_append_left (by simp [ssCells]; omega)]
      simp [ssOf]
    | succ i =>
      rw [List.flatMap_cons, List.getElem?_append_right (by simp [ssCells]; omega)]
      rw [show (i + 1) * 5 + j - (ssCells a).length = i * 5 + j from by simp [ssCells]; omega, ih i (by simpa using hi)]
      simp [ssOf]
theorem OwnSs.below (h : OwnSs E w base v t) (hb : Below w.heap.size w w') : OwnSs E w' base v t := by
  obtain ⟨h1, h2⟩ := h
  refine ⟨h1, ?_⟩
  rcases h2 with h2 | ⟨g, cap, cur, e, hg, hh, r⟩
  · exact .inl h2
  · exact .inr ⟨g, cap, cur, e, hg, by rw [hb.block g (Array.getElem?_eq_some_iff.1 hh).1]; exact hh, r⟩
theorem OwnSs.more (h : OwnSs E w base v t) {base' : Nat} (hb : base' ≤ base) : OwnSs E w base' v t := by
  obtain ⟨h1, h2⟩ := h
  refine ⟨h1, ?_⟩
  rcases h2 with h2 | ⟨g, cap, cur, e, hg, r⟩
  · exact .inl h2
  · exact .inr ⟨g, cap, cur, e, Nat.le_trans hb hg, r⟩
theorem OwnSs.block (h : OwnSs E w base v t) : ∀ k, v.ownBlock = some k → base ≤ k ∧ k < w.heap.size := World.ownsRow.lt h
theorem OwnSs.form (h : OwnSs E w base v t) : ∃ ao cap, v = .slice ao t.length cap ∧ RdSs w ao t.length t ∧ t.length ≤ cap ∧ cap ≤ maxLen ∧ (v = .slice none 0 0 ∨ ∃ g, ao = some ⟨g, 0, none⟩ ∧ base ≤ g ∧ g < w.heap.size) := by
  have h0 := h
  obtain ⟨h1, h2⟩ := h
  rcases h2 with ⟨rfl, h2⟩ | ⟨g, cap, cur, rfl, hg, hh, hn, hcap, hsz, htake⟩
  · have : t = [] := List.length_eq_zero_iff.1 h2
    subst this
    exact ⟨none, 0, rfl, RdSs.nil_, Nat.le_refl _, by unfold maxLen; omega, .inl rfl⟩
  · unfold OwnSs at h0
    have hc : ∀ i j, i < t.length → j < 5 → w.cell? ⟨g, 0 + i * 5 + j, none⟩ = (ssCells (ssOf t i))[j]? := fun i j hi hj => by
      rw [Nat.zero_add, World.ownsRow.cellAt h0 (i * 5 + j) (by omega), flatSs_get t i j hi hj]
    exact ⟨_, cap, rfl, ⟨rfl, fun _ => ⟨g, 0, rfl, fun i hi => ⟨hc i 0 hi (by omega), hc i 1 hi (by omega), hc i 2 hi (by omega), hc i 3 hi (by omega), hc i 4 hi (by omega)⟩⟩⟩, hn, hcap, .inr ⟨g, rfl, hg, (Array.getElem?_eq_some_iff.1 hh).1⟩⟩
theorem OwnSs.cap {cap : Nat} (h : OwnSs E w base (.slice ao n cap) t) : n ≤ cap ∧ cap ≤ 9223372036854775807 := by
  obtain ⟨ao', cap', e, -, h1, h2, -⟩ := h.form
  cases e
  unfold maxLen at h2
  exact ⟨h1, by omega⟩
theorem OwnSs.of_alloc_nil (hE : base ≤ w.heap.size) : OwnSs E (w.alloc (.cells #[] E)) base (.slice (some ⟨w.heap.size, 0, none⟩) 0 0) [] :=
  World.ownsRow_made w #[] 0 hE (by unfold maxLen; omega) rfl
theorem OwnSs.nil_ : OwnSs E w base (.slice none 0 0) [] := World.ownsRow_nil _ _ _ _
theorem OwnSs.get (h : OwnSs E w base v t) : ∃ ao cap, v = .slice ao t.length cap ∧ OwnSs E w base (.slice ao t.length cap) t ∧ RdSs w ao t.length t := by
  obtain ⟨ao, cap, rfl, r, -, -, -⟩ := h.form
  exact ⟨ao, cap, rfl, h, r⟩
theorem OwnSs.only {g : Option Nat} (h : OwnSs E w base v t) (ho : w.grownBy w' g) (hg : v.ownBlock = none ∨ v.ownBlock ≠ g) : OwnSs E w' base v t := World.ownsRow.kept h ho hg
end
def MakesSs2 (E : Nat) (w : World) (t : List Ss) (c : Int) (e : Ending) (w' : World) : Prop :=
  ∃ v, e = .returned (.tuple #[v, .int .i64 c]) ∧ OwnSs E w' w.heap.size v t ∧ Below w.heap.size w w'
section
variable {w w' : World} {E : Nat} {t : List Ss} {e : Ending} {c d : Int}
theorem MakesSs2.get (h : MakesSs2 E w t c e w') : ∃ ao cap, e = .returned (.tuple #[.slice ao t.length cap, .int .i64 c]) ∧ OwnSs E w' w.heap.size (.slice ao t.length cap) t ∧ RdSs w' ao t.length t ∧ Below w.heap.size w w' := by
  obtain ⟨v, rfl, o, b⟩ := h
  obtain ⟨ao, cap, rfl, o, r⟩ := o.get
  exact ⟨ao, cap, rfl, o, r, b⟩
end
def setSs (w : World) (b off : Nat) (x : Ss) : World := (((((w.setCell ⟨b, off, none⟩ (.int .i64 x.t)).setCell ⟨b, off + 1, none⟩ (.int .i64 x.m)).setCell ⟨b, off + 2, none⟩ (.int .i64 x.r)).setCell ⟨b, off + 3, none⟩ (.int .i64 x.s)).setCell ⟨b, off + 4, none⟩ (.int .i64 x.k))
theorem ssOf_set {t : List Ss} {k : Nat} (h : k < t.length) (y : Ss) : ssOf (t.set k y) k = y := by simp [ssOf, List.getD, h]
theorem flatSs_set : ∀ (t : List Ss) (k : Nat), k < t.length → ∀ (j : Nat) (u : Value) (y : Ss), ssCells y = (ssCells (ssOf t k)).set j u → j < 5 → (t.flatMap ssCells).set (k * 5 + j) u = (t.set k y).flatMap ssCells
  | [], _, h, _, _, _, _, _ => by simp at h
  | a :: r, 0, _, j, u, y, e, hj => by
    have e2 : ssOf (a :: r) 0 = a := by simp [ssOf]
    rw [e2] at e
    rw [List.set_cons_zero, List.flatMap_cons, List.flatMap_cons, e, Nat.zero_mul, Nat.zero_add]
    rw [List.set_append_left _ _ (by simp [ssCells]; omega)]
  | a :: r, k + 1, h, j, u, y, e, hj => by
    have e2 : ssOf (a :: r) (k + 1) = ssOf r k := by simp [ssOf]
    rw [e2] at e
    rw [List.set_cons_succ, List.flatMap_cons, List.flatMap_cons, List.set_append_right _ _ (by simp [ssCells]; omega)]
    rw [show (k + 1) * 5 + j - (ssCells a).length = k * 5 + j from by simp [ssCells]; omega, flatSs_set r k (by simpa using h) j u y e hj]
section
variable {E : Nat} {w : World} {base g n cap : Nat} {t : List Ss}
theorem OwnSs.field (ho : OwnSs E w base (.slice (some ⟨g, 0, none⟩) n cap) t) (hl : t.length = n) {k : Nat} (hk : k < n) {j : Nat} (hj : j < 5) {u : Value} {y : Ss} (e : ssCells y = (ssCells (ssOf t k)).set j u) :
    w.frozen? ⟨g, k * 5 + j, none⟩ = false ∧ OwnSs E (w.setCell ⟨g, k * 5 + j, none⟩ u) base (.slice (some ⟨g, 0, none⟩) n cap) (t.set k y) ∧ Below base w (w.setCell ⟨g, k * 5 + j, none⟩ u) := by
  have hb := (ho.block g rfl).1
  unfold OwnSs at ho ⊢
  rw [hl] at ho
  refine ⟨World.ownsRow.frozenAt ho _, ?_, (Below.refl _ _).setCell (by exact hb) _⟩
  have h := (World.ownsRow.stored ho (k * 5 + j) u).1
  rw [flatSs_set t k (by omega) j u y e hj] at h
  rw [List.length_set, hl]
  exact h
theorem OwnSs.store (ho : OwnSs E w base (.slice (some ⟨g, 0, none⟩) n cap) t) (hl : t.length = n) {k : Nat} (hk : k < n) (x : Ss) :
    SsIn w g (k * 5) (ssOf t k) ∧ (w.frozen? ⟨g, k * 5, none⟩ = false ∧ w.frozen? ⟨g, k * 5 + 1, none⟩ = false ∧ w.frozen? ⟨g, k * 5 + 2, none⟩ = false ∧ w.frozen? ⟨g, k * 5 + 3, none⟩ = false ∧ w.frozen? ⟨g, k * 5 + 4, none⟩ = false) ∧
      OwnSs E (setSs w g (k * 5) x) base (.slice (some ⟨g, 0, none⟩) n cap) (t.set k x) ∧ Below base w (setSs w g (k * 5) x) := by
  have hin : SsIn w g (k * 5) (ssOf t k) := by
    obtain ⟨ao, cap', e, r, -⟩ := ho.form
    cases e
    obtain ⟨b, off, e, -, h⟩ := r.at (i := k) (by omega)
    cases e
    rwa [Nat.zero_add] at h
  have hkt : k < t.length := by omega
  generalize hz : ssOf t k = z at hin ⊢
  obtain ⟨f0, o0, b0⟩ := ho.field (j := 0) (u := .int .i64 x.t) (y := ⟨x.t, z.m, z.r, z.s, z.k⟩) hl hk (by omega) (by rw [hz]; rfl)
  obtain ⟨f1, -, -⟩ := ho.field (j := 1) (u := .int .i64 x.m) (y := ⟨z.t, x.m, z.r, z.s, z.k⟩) hl hk (by omega) (by rw [hz]; rfl)
  obtain ⟨f2, -, -⟩ := ho.field (j := 2) (u := .int .i64 x.r) (y := ⟨z.t, z.m, x.r, z.s, z.k⟩) hl hk (by omega) (by rw [hz]; rfl)
  obtain ⟨f3, -, -⟩ := ho.field (j := 3) (u := .int .i64 x.s) (y := ⟨z.t, z.m, z.r, x.s, z.k⟩) hl hk (by omega) (by rw [hz]; rfl)
  obtain ⟨f4, -, -⟩ := ho.field (j := 4) (u := .int .i64 x.k) (y := ⟨z.t, z.m, z.r, z.s, x.k⟩) hl hk (by omega) (by rw [hz]; rfl)
  obtain ⟨-, o1, b1⟩ := o0.field (j := 1) (u := .int .i64 x.m) (y := ⟨x.t, x.m, z.r, z.s, z.k⟩) (by rw [List.length_set]; exact hl) hk (by omega) (by rw [ssOf_set hkt]; rfl)
  rw [List.set_set] at o1
  obtain ⟨-, o2, b2⟩ := o1.field (j := 2) (u := .int .i64 x.r) (y := ⟨x.t, x.m, x.r, z.s, z.k⟩) (by rw [List.length_set]; exact hl) hk (by omega) (by rw [ssOf_set hkt]; rfl)
  rw [List.set_set] at o2
  obtain ⟨-, o3, b3⟩ := o2.field (j := 3) (u := .int .i64 x.s) (y := ⟨x.t, x.m, x.r, x.s, z.k⟩) (by rw [List.length_set]; exact hl) hk (by omega) (by rw [ssOf_set hkt]; rfl)
  rw [List.set_set] at o3
  obtain ⟨-, o4, b4⟩ := o3.field (j := 4) (u := .int .i64 x.k) (y := ⟨x.t, x.m, x.r, x.s, x.k⟩) (by rw [List.length_set]; exact hl) hk (by omega) (by rw [ssOf_set hkt]; rfl)
  rw [List.set_set] at o4
  exact ⟨hin, ⟨f0, f1, f2, f3, f4⟩, o4, ((((b0.trans b1).trans b2).trans b3).trans b4)⟩
end
abbrev InfoSs (P : Program) (E : Nat) : Prop := (P.info? E).map (fun i => (i.zero, i.size, i.bytes)) = some (some (ssVal Ss.zero), 5, 40)
theorem info_parts_ss {P : Program} {E : Nat} (h : InfoSs P E) : ∃ i, P.info? E = some i ∧ i.zero = some (ssVal Ss.zero) ∧ i.size = 5 ∧ i.bytes = 40 := by
  unfold InfoSs at h
  cases hi : P.info? E with
  | none => rw [hi] at h; cases h
  | some i =>
    rw [hi] at h
    simp only [Option.map_some, Option.some.injEq, Prod.mk.injEq] at h
    exact ⟨i, rfl, h.1, h.2.1, h.2.2⟩
theorem cellsSs_zero : (ssVal Ss.zero).cells = #[.int .i64 0, .int .i64 0, .int .i64 0, .int .i64 0, .int .i64 0] := rfl
theorem madeSs (n : Nat) : (madeCells (ssVal Ss.zero).cells (n * 5)).toList = (List.replicate n Ss.zero).flatMap ssCells := by
  apply List.ext_getElem?
  intro i
  by_cases h : i < n * 5
  · have hi : i = (i / 5) * 5 + i % 5 := by omega
    have h4 : i % 5 < 5 := by omega
    conv => rhs; rw [hi]
    rw [flatSs_get _ _ _ (by rw [List.length_replicate]; omega) h4]
    have hz : ssOf (List.replicate n Ss.zero) (i / 5) = Ss.zero := by
      rw [ssOf_get (by rw [List.length_replicate]; omega), List.getElem_replicate]
    rw [hz, cellsSs_zero]
    unfold madeCells
    rw [Array.toList_map, List.getElem?_map, Array.toList_range, List.getElem?_range h]
    simp only [Option.map_some]
    have h5 : #[Value.int .i64 0, .int .i64 0, .int .i64 0, .int .i64 0, .int .i64 0].size = 5 := rfl
    rw [h5]
    generalize i % 5 = j at h4
    match j, h4 with
    | 0, _ => rfl
    | 1, _ => rfl
    | 2, _ => rfl
    | 3, _ => rfl
    | 4, _ => rfl
  · rw [List.getElem?_eq_none (by rw [Array.length_toList, size_madeCells]; omega), List.getElem?_eq_none (by rw [flatSs_len, List.length_replicate]; omega)]
section
variable {P : Program} {E T : Nat} (w : World) {ops : Array Oper} {rest : List Oper} {o : Oper} {a : Act} {Q : Exit → Act → World → Prop}
theorem make_ss (hg : o.guard = none) (l c : Operand) (hop : o.op = Op.makeSlice T l c) (base : Nat) (ht : P.underlying T = some (.slice E)) (hi : InfoSs P E)
    (kl kc : IntKind) (L C : Int) (n : Nat) (hl : a.eval l = .int kl L) (hc : a.eval c = .int kc C) (hL : L = (n : Int)) (hC : C = (n : Int)) (hm : n ≤ 4294967296) (hb : base ≤ w.heap.size)
    (hK : ∀ w', OwnSs E w' base (.slice (some ⟨w.heap.size, 0, none⟩) n n) (List.replicate n Ss.zero) → Below base w w' → wpList P ops Q rest (a.put o.dst (.slice (some ⟨w.heap.size, 0, none⟩) n n)) w') :
    wpList P ops Q (o :: rest) a w := by
  obtain ⟨i0, hi, hz0, hz1, hz2⟩ := info_parts_ss hi
  refine wpList_make_full w hg l c T hop base E i0 (ssVal Ss.zero) 5 ht hi hz0 hz1 kl kc L C n hl hc hL hC (by rw [hz2]; omega) (by unfold maxLen; omega) hb ?_
  intro w' h1 h2
  refine hK w' ?_ ((Below.refl _ _).grown h2 hb (fun k h => by cases h))
  unfold OwnSs
  rw [List.length_replicate, ← madeSs]
  exact h1
theorem append_ss (hgd : o.guard = none) (s x : Operand)
    (ho : o.op = .call { callee := .builtin .append, args := #[s, x], argTypes := #[T, T] })
    (base : Nat) (ht : P.underlying T = some (.slice E)) (hi : InfoSs P E)
    (v : Value) (t : List Ss) (hs : a.eval s = v) (hown : OwnSs E w base v t) (b : Nat) (y : Ss) (c : Nat) (hx : a.eval x = .slice (some ⟨b, 0, none⟩) 1 c) (hc : SsIn w b 0 y)
    (hlen : t.length ≤ 4294967296) (hbase : base ≤ w.heap.size)
    (h : ∀ v' w', OwnSs E w' base v' (t ++ [y]) → Below base w w' → wpList P ops Q rest (a.put o.dst v') w') : wpList P ops Q (o :: rest) a w := by
  obtain ⟨i0, hi, hz0, hz1, hz2⟩ := info_parts_ss hi
  refine wpList_append_own w hgd s x T ho base E i0 (ssVal Ss.zero) 5 40 ht hi hz0 hz1 hz2 rfl (by decide) v t.length (t.flatMap ssCells) hs hown ⟨b, 0, none⟩ 1 c (ssCells y) hx rfl ?_ ?_ (by unfold maxLen; omega) (by omega) hbase ?_
  · intro j u hj
    match j, hj with
    | 0, hj => simp [ssCells] at hj; subst hj; simpa [Addr.add] using hc.c0
    | 1, hj => simp [ssCells] at hj; subst hj; simpa [Addr.add] using hc.c1
    | 2, hj => simp [ssCells] at hj; subst hj; simpa [Addr.add] using hc.c2
    | 3, hj => simp [ssCells] at hj; subst hj; simpa [Addr.add] using hc.c3
    | 4, hj => simp [ssCells] at hj; subst hj; simpa [Addr.add] using hc.c4
    | j + 5, hj => simp [ssCells] at hj
  · intro u hu; simp [ssCells] at hu; rcases hu with rfl | rfl | rfl | rfl | rfl <;> rfl
  · intro v' w' h1 h2 _
    refine h v' w' ?_ ((Below.refl _ _).grown h2 hbase fun k hk => (hown.block k hk).1)
    unfold OwnSs
    rw [List.length_append, List.flatMap_append]
    simpa using h1
end
end

section
open Go.RowKit
theorem infoSs : (Tryz.prog.info? 30).map (fun i => (i.zero, i.size, i.bytes)) = some (some (ssVal Ss.zero), 5, 40) := by kernel_rfl
theorem grownC (w : World) (X i : Nat) (z : Value) : w.grownBy (w.setCell ⟨X, i, none⟩ z) (some X) :=
  ⟨rfl, rfl, rfl, by simp [World.setCell], fun k _ hne => Below.heap_setCell _ _ _ _ (fun e => hne (by rw [e]))⟩
theorem grownT {w w' w'' : World} {p : Nat} (h : w.grownBy w' (some p)) (k : w'.grownBy w'' (some p)) : w.grownBy w'' (some p) :=
  ⟨k.os.trans h.os, k.tape.trans h.tape, k.output.trans h.output, Nat.le_trans h.size k.size, fun i hi hne => (k.block i (Nat.lt_of_lt_of_le hi h.size) hne).trans (h.block i hi hne)⟩
theorem grownF (w : World) (X : Nat) (t m r s k : Int) : w.grownBy (setFive w X t m r s k) (some X) :=
  grownT (grownT (grownT (grownT (grownC w X 0 _) (grownC _ X 1 _)) (grownC _ X 2 _)) (grownC _ X 3 _)) (grownC _ X 4 _)
structure Soc (w W : World) (v : Mv) (x : Ss) : Prop where
  bx : MvAt 28 W w.heap.size v
  st : StateAt 30 W (w.heap.size + 1) x.t x.m x.r x.s x.k
  below : Below w.heap.size w W
  rd0 : RdMe w v
section
variable {w W W' : World} {v : Mv} {x : Ss}
theorem Soc.rd (h : Soc w W v x) : RdMe W v := h.rd0.below h.below
theorem Soc.far (h : Soc w W v x) (hb : Below (w.heap.size + 2) W W') : Soc w W' v x := ⟨h.bx.below hb (by omega), StateAt.below h.st hb (by omega), h.below.trans ⟨hb.os, hb.tape, hb.output, hb.size, fun k hk => hb.block k (by omega)⟩, h.rd0⟩
theorem Soc.call (h : Soc w W v x) (hb : Below W.heap.size W W') : Soc w W' v x := ⟨h.bx.below hb h.bx.lt, StateAt.below h.st hb (StateAt.lt h.st), below_two h.below hb, h.rd0⟩
theorem Soc.put (h : Soc w W v x) (y : Ss) : Soc w (setFive W (w.heap.size + 1) y.t y.m y.r y.s y.k) v y :=
  ⟨h.bx.below (below_five (Nat.le_refl _) y.t y.m y.r y.s y.k) (by omega), StateAt.five h.st _ _ _ _ _, h.below.trans (below_five (Nat.le_succ _) y.t y.m y.r y.s y.k), h.rd0⟩
theorem Soc.start (hr : RdMe w v) : Soc w ((w.alloc (.cells #[.int .i64 v.id, .slice v.no v.n.length v.nc, .slice v.mo v.cs.length v.mc, .slice v.eo v.e.length v.ec] 28)).alloc (.cells #[.int .i64 x.t, .int .i64 x.m, .int .i64 x.r, .int .i64 x.s, .int .i64 x.k] 30)) v x := by
  have h := Bs.start (x := x) hr
  exact ⟨h.bx.at_, h.st, h.bx.below, hr⟩
end
theorem statesTo_next (m : Me) (x : Ss) (k : Nat) : statesTo m x (k + 1) = statesTo m x k ++ [iterL m x k] := by
  unfold statesTo; rw [List.range_succ, List.map_append]; rfl
theorem statesTo_len (m : Me) (x : Ss) (k : Nat) : (statesTo m x k).length = k := by unfold statesTo; rw [List.length_map, List.length_range]
set_option linter.unusedSimpArgs false in
set_option maxRecDepth 100000 in
set_option maxHeartbeats 4000000 in
theorem sStatesOfCycle_any (v : Mv) (x : Ss) (w : World) (hr : RdMe w v) :
    Calls Tryz.prog 19 #[mvVal v, ssVal x] w (MakesSs2 30 w (statesOfCycle v.me x).1 (statesOfCycle v.me x).2) := by
  have HX := Lib.hid (Soc.start (x := x) hr)
  by_cases hc : codeLu v.me x = 0
  rotate_left
  · have HL := Lib.hid (fun W (hW : RdMe W v) => l15Code_any v x W hW)
    rw [show statesOfCycle v.me x = ([], codeLu v.me x) from by unfold statesOfCycle; rw [if_neg hc]]
    generalize codeLu v.me x = c at HL hc ⊢
    have hcb : (c != 0) = true := by simp [hc]
    clear hr hc
    unfold mvVal at HL ⊢
    unfold ssVal at HL ⊢
    go_enter Tryz.func19, Tryz.ntmps19
    go_upto_region 1 with fail
    generalize (w.alloc (.cells #[.int .i64 v.id, .slice v.no v.n.length v.nc, .slice v.mo v.cs.length v.mc, .slice v.eo v.e.length v.ec] 28)).alloc (.cells #[.int .i64 x.t, .int .i64 x.m, .int .i64 x.r, .int .i64 x.s, .int .i64 x.k] 30) = w1 at HX ⊢
    obtain ⟨z0, z1, z2, z3⟩ := HX.out.bx.all
    have x0 := HX.out.st.c0; have x1 := HX.out.st.c1; have x2 := HX.out.st.c2; have x3 := HX.out.st.c3; have x4 := HX.out.st.c4
    go_wp2_with fail
    refine (HL.out _ HX.out.rd).mono ?_
    rintro e w2 ⟨rfl, b2⟩
    clear z0 z1 z2 z3 x0 x1 x2 x3 x4
    go_wp2_with fail
    go_ret2
    exact ⟨_, rfl, OwnSs.nil_, (HX.out.call b2).below⟩
  have HL := Lib.hid (fun W (hW : RdMe W v) => (by have h := l15Code_any v x W hW; rwa [hc] at h : Calls Tryz.prog 73 #[mvVal v, ssVal x] W fun e w' => e = .returned (.int .i64 0) ∧ Below W.heap.size W w'))
  obtain ⟨h1, h2⟩ := codeLu_yes hc
  have hw := medl_iff.1 h1
  obtain ⟨j, R, S, r, s, hy⟩ := belongs_get hw h2
  have hRS : R * S ≤ 128 := Nat.le_trans (Nat.mul_le_mul hy.R8 hy.S16) (by omega)
  rw [show statesOfCycle v.me x = (statesTo v.me x (R * S), 0) from by unfold statesOfCycle; rw [if_pos hc, hy.hm, Int.toNat_natCast, hy.Rn, hy.Sn]]
  have HD := Lib.hid (fun k W (hW : RdMe W v) => (by obtain ⟨r', s', hk, -⟩ := hy.iter hw k; exact l15Next_any v W hW hw hk : Calls Tryz.prog 74 #[mvVal v, ssVal (iterL v.me x k)] W fun e w' => e = .returned (ssVal (nextOf v.me (iterL v.me x k))) ∧ Below W.heap.size W w'))
  have hjc : j < v.cs.length := by have e : v.me.modes.length = v.cs.length := mds_len v.cs; have := hy.hj; omega
  have HMD := Lib.hid (fun W (hW : RdMe W v) => (show ∃ g off, v.mo = some ⟨g, off, none⟩ ∧ W.cell? ⟨g, off + j * 3, none⟩ = some (.int .i64 R) ∧ W.cell? ⟨g, off + j * 3 + 1, none⟩ = some (.int .i64 S) from by
    obtain ⟨g, off, e0, hx⟩ := hW.rm.here (by omega)
    have h := hx j hjc
    have e1 : (mcOf v.cs j).md.rounds = R := by rw [← mdOf_mds]; exact hy.hR
    have e2 : (mcOf v.cs j).md.slots = S := by rw [← mdOf_mds]; exact hy.hS
    exact ⟨g, off, e0, by rw [← e1]; exact h.c0, by rw [← e2]; exact h.c1⟩))
  obtain ⟨P, hP⟩ : ∃ P, R * S = P := ⟨_, rfl⟩
  have hPm : IntKind.i64.wrap ((R : Int) * (S : Int)) = (P : Int) := by rw [← Int.natCast_mul, hP, IntKind.wrap_i64]; omega
  rw [hP] at hRS ⊢
  have HXM := Lib.hid hy.hm; have HPM := Lib.hid hPm; have HJL := Lib.hid (show (j : Int) < (v.cs.length : Int) from by omega)
  clear hPm
  obtain ⟨F, hF⟩ : ∃ F : Nat → Ss, iterL v.me x = F := ⟨_, rfl⟩
  obtain ⟨Z, hZ⟩ : ∃ Z : Nat → List Ss, statesTo v.me x = Z := ⟨_, rfl⟩
  have HF0 := Lib.hid (show F 0 = x from by rw [← hF]; rfl)
  have HFN := Lib.hid (fun k => (show nextOf v.me (F k) = F (k + 1) from by rw [← hF]; rfl))
  have HZ0 := Lib.hid (show Z 0 = [] from by rw [← hZ]; rfl)
  have HZN := Lib.hid (fun k => (show Z (k + 1) = Z k ++ [F k] from by rw [← hF, ← hZ]; exact statesTo_next ..))
  have HZL := Lib.hid (fun k => (show (Z k).length = k from by rw [← hZ]; exact statesTo_len ..))
  rw [hZ]
  rw [hF] at HD
  clear hF hZ hc h1 h2 hw hy hP hjc hr
  unfold mvVal at HL HD ⊢
  unfold ssVal at HL HD ⊢
  go_enter Tryz.func19, Tryz.ntmps19
  go_upto_region 1 with fail
  generalize (w.alloc (.cells #[.int .i64 v.id, .slice v.no v.n.length v.nc, .slice v.mo v.cs.length v.mc, .slice v.eo v.e.length v.ec] 28)).alloc (.cells #[.int .i64 x.t, .int .i64 x.m, .int .i64 x.r, .int .i64 x.s, .int .i64 x.k] 30) = w1 at HX ⊢
  obtain ⟨z0, z1, z2, z3⟩ := HX.out.bx.all
  have x0 := HX.out.st.c0; have x1 := HX.out.st.c1; have x2 := HX.out.st.c2; have x3 := HX.out.st.c3; have x4 := HX.out.st.c4
  go_wp2_with fail
  refine (HL.out _ HX.out.rd).mono ?_
  rintro e w2 ⟨rfl, b2⟩
  have HX2 := Lib.hid (HX.out.call b2)
  clear z0 z1 z2 z3 x0 x1 x2 x3 x4 b2 HX HL
  go_upto_region 5 with fail
  have HO := Lib.hid (show OwnSs 30 (w2.alloc (.cells #[] 30)) (w.heap.size + 2) (.slice (some ⟨w2.heap.size, 0, none⟩) 0 0) [] from OwnSs.of_alloc_nil (by have := StateAt.lt HX2.out.st; omega))
  have HX3 := Lib.hid (HX2.out.call ((Below.refl _ _).alloc (Nat.le_refl _) (.cells #[] 30)))
  clear HX2
  generalize w2.alloc (.cells #[] 30) = w3 at HO HX3 ⊢
  obtain ⟨ao0, hao⟩ : ∃ u : Value, u = (Value.slice (some ⟨w2.heap.size, 0, none⟩) 0 0) := ⟨_, rfl⟩
  rw [← hao] at HO ⊢
  clear hao
  obtain ⟨g, off, e0, hc0, hc1⟩ := HMD.out w3 HX3.out.rd
  obtain ⟨z0, z1, z2, z3⟩ := HX3.out.bx.all
  rw [e0] at z2
  have x1 := HX3.out.st.c1
  rw [HXM.out] at x1
  have hPm := HPM.out; have hjl := HJL.out
  refine wp_region_held_drew (S := fun w' => w'.cell? ⟨w.heap.size, 2, none⟩ = some (.slice (some ⟨g, off, none⟩) v.cs.length v.mc) ∧ w'.cell? ⟨w.heap.size + 1, 1, none⟩ = some (.int .i64 j) ∧ w'.cell? ⟨g, off + j * 3, none⟩ = some (.int .i64 R) ∧ w'.cell? ⟨g, off + j * 3 + 1, none⟩ = some (.int .i64 S)) (by kernel_rfl) (⟨z2, x1, hc0, hc1⟩) (fun hHeld => ?_)
  clear z0 z1 z2 z3 x1 hc0 hc1 e0
  have HX4 := Lib.hid (HX3.out.call (Below.drew (Below.refl _ _)))
  have HO4 := Lib.hid (HO.out.below (Below.drew (Below.refl _ _)))
  clear HX3 HO
  generalize w3.drew = w4 at HX4 HO4 hHeld ⊢
  refine tk (i := 0) (v := ?_) rfl (Or.inl ⟨by rfl, ?_⟩) (by assumption) ?_
  rotate_left
  · (intro w hSw; (try dsimp only at hSw); go_simp; (try with_reducible rfl))
  try simp only [pa, pb, pc, Act.put, pe, pf, pg]
  refine tk (i := 1) (v := ?_) rfl (Or.inl ⟨by rfl, ?_⟩) (by assumption) ?_
  rotate_left
  · (intro w hSw; (try dsimp only at hSw); go_simp; (try with_reducible rfl))
  try simp only [pa, pb, pc, Act.put, pe, pf, pg]
  refine tk (i := 2) (v := ?_) rfl (Or.inl ⟨by rfl, ?_⟩) (by assumption) ?_
  rotate_left
  · (intro w hSw; (try dsimp only at hSw); go_simp; (try with_reducible rfl))
  try simp only [pa, pb, pc, Act.put, pe, pf, pg]
  refine tk (i := 3) (v := ?_) rfl (Or.inl ⟨by rfl, ?_⟩) (by assumption) ?_
  rotate_left
  · (intro w hSw; (try dsimp only at hSw); go_simp; (try with_reducible rfl))
  try simp only [pa, pb, pc, Act.put, pe, pf, pg]
  refine tk (i := 4) (v := ?_) rfl (Or.inl ⟨by rfl, ?_⟩) (by assumption) ?_
  rotate_left
  · (intro w hSw; (try dsimp only at hSw); go_simp; (try with_reducible rfl))
  try simp only [pa, pb, pc, Act.put, pe, pf, pg]
  refine tk (i := 5) (v := ?_) rfl (Or.inl ⟨by rfl, ?_⟩) (by assumption) ?_
  rotate_left
  · (intro w hSw; (try dsimp only at hSw); go_simp; (try with_reducible rfl))
  try simp only [pa, pb, pc, Act.put, pe, pf, pg]
  refine tk (i := 6) (v := ?_) rfl (Or.inl ⟨by rfl, ?_⟩) (by assumption) ?_
  rotate_left
  · (intro w hSw; (try dsimp only at hSw); go_simp; (try with_reducible rfl))
  try simp only [pa, pb, pc, Act.put, pe, pf, pg]
  refine tk (i := 7) (v := ?_) rfl (Or.inl ⟨by rfl, ?_⟩) (by assumption) ?_
  rotate_left
  · (intro w hSw; (try dsimp only at hSw); go_simp; (try with_reducible rfl))
  try simp only [pa, pb, pc, Act.put, pe, pf, pg]
  refine tk (i := 8) (v := ?_) rfl (Or.inl ⟨by rfl, ?_⟩) (by assumption) ?_
  rotate_left
  · (intro w hSw; (try dsimp only at hSw); go_simp; (try with_reducible rfl))
  try simp only [pa, pb, pc, Act.put, pe, pf, pg]
  refine tk (i := 9) (v := ?_) rfl (Or.inl ⟨by rfl, ?_⟩) (by assumption) ?_
  rotate_left
  · (intro w hSw; (try dsimp only at hSw); go_simp; (try with_reducible rfl))
  try simp only [pa, pb, pc, Act.put, pe, pf, pg]
  refine tk (i := 10) (v := ?_) rfl (Or.inl ⟨by rfl, ?_⟩) (by assumption) ?_
  rotate_left
  · (intro w hSw; (try dsimp only at hSw); go_simp; (try with_reducible rfl))
  try simp only [pa, pb, pc, Act.put, pe, pf, pg]
  refine tk (i := 11) (v := ?_) rfl (Or.inl ⟨by rfl, ?_⟩) (by assumption) ?_
  rotate_left
  · (intro w hSw; (try dsimp only at hSw); go_simp; (try with_reducible rfl))
  try simp only [pa, pb, pc, Act.put, pe, pf, pg]
  refine tk (i := 12) (v := ?_) rfl (Or.inl ⟨by rfl, ?_⟩) (by assumption) ?_
  rotate_left
  · (intro w hSw; (try dsimp only at hSw); go_simp; (try with_reducible rfl))
  try simp only [pa, pb, pc, Act.put, pe, pf, pg]
  refine tk (i := 13) (v := ?_) rfl (Or.inl ⟨by rfl, ?_⟩) (by assumption) ?_
  rotate_left
  · (intro w hSw; (try dsimp only at hSw); go_simp; (try with_reducible rfl))
  try simp only [pa, pb, pc, Act.put, pe, pf, pg]
  refine tk (i := 14) (v := ?_) rfl (Or.inl ⟨by rfl, ?_⟩) (by assumption) ?_
  rotate_left
  · (intro w hSw; (try dsimp only at hSw); go_simp; (try with_reducible rfl))
  try simp only [pa, pb, pc, Act.put, pe, pf, pg]
  refine tk (i := 15) (v := ?_) rfl (Or.inl ⟨by rfl, ?_⟩) (by assumption) ?_
  rotate_left
  · (intro w hSw; (try dsimp only at hSw); go_simp; (try with_reducible rfl))
  try simp only [pa, pb, pc, Act.put, pe, pf, pg]
  refine wpAnyH_done (by kernel_rfl) ?_ _
  clear hHeld hPm hjl
  go_upto_region 6 with fail
  go_loopw [7, 8] (fun o i wr => ∃ k : Nat, k ≤ P ∧ i = .int .i64 ((P : Int) - k) ∧ Hid (Soc w wr v (F k)) ∧ Hid (OwnSs 30 wr (w.heap.size + 2) o (Z k))) (fun _ i _ => (intOf i).toNat)
  case atStart => exact ⟨0, Nat.zero_le _, by simp, by rw [HF0.out]; exact HX4, by rw [HZ0.out]; exact HO4⟩
  case round =>
    obtain ⟨k, hk, rfl, HS, HW⟩ := hrel
    by_cases hlt : k < P
    · have hpos : 0 < (P : Int) - k := by omega
      have hwr : IntKind.i64.wrap ((P : Int) - k - 1) = (P : Int) - (k + 1 : Nat) := by rw [IntKind.wrap_i64]; omega
      obtain ⟨ao, cp, e1, -, -⟩ := HW.out.get
      subst e1
      have h := HD.out k
      rw [HFN.out k] at h
      have HDK := Lib.hid h
      obtain ⟨y, hy⟩ : ∃ y, F k = y := ⟨_, rfl⟩
      obtain ⟨y2, hy2⟩ : ∃ y, F (k + 1) = y := ⟨_, rfl⟩
      rw [hy, hy2] at HDK
      rw [hy] at HS
      have HZK := Lib.hid (show Z (k + 1) = Z k ++ [y] from by rw [HZN.out k, hy])
      have HY2 := Lib.hid hy2
      have hlk := HZL.out k
      have HLK := Lib.hid (show (Z k).length ≤ 4294967296 from by omega)
      generalize Z k = zk at HW HZK HLK
      have HAL := Lib.hid ((Below.refl wr.heap.size wr).alloc (Nat.le_refl _) (.cells #[.int .i64 y.t, .int .i64 y.m, .int .i64 y.r, .int .i64 y.s, .int .i64 y.k] 30))
      have HSZ := Lib.hid (StateAt.lt HS.out.st)
      clear h hy hy2 hlk
      have x0 := HS.out.st.c0; have x1 := HS.out.st.c1; have x2 := HS.out.st.c2; have x3 := HS.out.st.c3; have x4 := HS.out.st.c4
      go_upto_region 9 with (at_builtin; refine append_ss _ rfl (.tmp 35) (.tmp 37) rfl (w.heap.size + 2) Tryz.underlying33 infoSs _ zk rfl (HW.out.below HAL.out) _ y _ rfl (SsIn.of (StateAt.new _)) HLK.out (by have := HSZ.out; have := HAL.out.size; omega) ?_; intro v5 w5 o5 b5)
      have HS5 := Lib.hid ((HS.out.call HAL.out).far b5)
      have HW5 := Lib.hid o5
      clear x0 x1 x2 x3 x4 o5 b5 HS HW HAL HLK
      obtain ⟨z0, z1, z2, z3⟩ := HS5.out.bx.all
      have x0 := HS5.out.st.c0; have x1 := HS5.out.st.c1; have x2 := HS5.out.st.c2; have x3 := HS5.out.st.c3; have x4 := HS5.out.st.c4
      go_wp2_with fail
      refine (HDK.out _ HS5.out.rd).mono ?_
      rintro e w6 ⟨rfl, b6⟩
      have HS6 := Lib.hid (HS5.out.call b6)
      have HW6 := Lib.hid (HW5.out.below b6)
      clear z0 z1 z2 z3 x0 x1 x2 x3 x4 b6 HS5 HW5 HDK
      have x0 := HS6.out.st.c0; have x1 := HS6.out.st.c1; have x2 := HS6.out.st.c2; have x3 := HS6.out.st.c3; have x4 := HS6.out.st.c4
      have f0 := HS6.out.st.f 0; have f1 := HS6.out.st.f 1; have f2 := HS6.out.st.f 2; have f3 := HS6.out.st.f 3; have f4 := HS6.out.st.f 4
      go_upto_region 7 with fail
      have HS7 := Lib.hid (show Soc w (((((w6.setCell ⟨w.heap.size + 1, 0, none⟩ (.int .i64 y2.t)).setCell ⟨w.heap.size + 1, 1, none⟩ (.int .i64 y2.m)).setCell ⟨w.heap.size + 1, 2, none⟩ (.int .i64 y2.r)).setCell ⟨w.heap.size + 1, 3, none⟩ (.int .i64 y2.s)).setCell ⟨w.heap.size + 1, 4, none⟩ (.int .i64 y2.k)) v y2 from HS6.out.put y2)
      have HW7 := Lib.hid (show OwnSs 30 (((((w6.setCell ⟨w.heap.size + 1, 0, none⟩ (.int .i64 y2.t)).setCell ⟨w.heap.size + 1, 1, none⟩ (.int .i64 y2.m)).setCell ⟨w.heap.size + 1, 2, none⟩ (.int .i64 y2.r)).setCell ⟨w.heap.size + 1, 3, none⟩ (.int .i64 y2.s)).setCell ⟨w.heap.size + 1, 4, none⟩ (.int .i64 y2.k)) (w.heap.size + 2) v5 (zk ++ [y]) from HW6.out.only (grownF w6 (w.heap.size + 1) y2.t y2.m y2.r y2.s y2.k) (Or.inr fun e => by have := (HW6.out.block _ e).1; omega))
      clear x0 x1 x2 x3 x4 f0 f1 f2 f3 f4 HS6 HW6
      generalize (((((w6.setCell ⟨w.heap.size + 1, 0, none⟩ (.int .i64 y2.t)).setCell ⟨w.heap.size + 1, 1, none⟩ (.int .i64 y2.m)).setCell ⟨w.heap.size + 1, 2, none⟩ (.int .i64 y2.r)).setCell ⟨w.heap.size + 1, 3, none⟩ (.int .i64 y2.s)).setCell ⟨w.heap.size + 1, 4, none⟩ (.int .i64 y2.k)) = w7 at HS7 HW7 ⊢
      go_wp2_with fail
      go_roundw
      case rel => exact ⟨k + 1, by omega, by go_num, by rw [HY2.out]; exact HS7, by rw [HZK.out]; exact HW7⟩
      case measure => simp [intOf]; omega
    · have hke : k = P := by omega
      subst hke
      obtain ⟨ao, cp, rfl, -, -⟩ := HW.out.get
      have hz : ¬ 0 < (k : Int) - k := by omega
      go_wp2_with fail
      go_ret2
      exact ⟨_, rfl, HW.out.more (by omega), HS.out.below⟩
end

section
open Go.RowKit
def fillSs (Z : Nat → List Ss) (P k : Nat) : List Ss := Z k ++ List.replicate (P - k) Ss.zero
theorem fillSs_len {Z : Nat → List Ss} {P k : Nat} (hl : (Z k).length = k) (hk : k ≤ P) : (fillSs Z P k).length = P := by
  unfold fillSs; rw [List.length_append, List.length_replicate, hl]; omega
theorem fillSs_step {Z : Nat → List Ss} {P k : Nat} {y : Ss} (hl : (Z k).length = k) (hk : k < P) (hn : Z (k + 1) = Z k ++ [y]) : (fillSs Z P k).set k y = fillSs Z P (k + 1) := by
  unfold fillSs
  rw [List.set_append_right _ _ (by omega), hl, Nat.sub_self, show P - k = (P - (k + 1)) + 1 by omega, List.replicate_succ, List.set_cons_zero, hn, List.append_assoc]
  rfl
theorem OwnSs.old17 {E base p : Nat} {w w' : World} {v : Value} {t : List Ss} (h : OwnSs E w base v t) (hg : w.grownBy w' (some p)) (hp : p < base) : OwnSs E w' base v t := by
  refine h.only hg ?_
  cases hk : v.ownBlock with
  | none => exact .inl rfl
  | some k => exact .inr (fun e => by cases e; have := (h.block _ hk).1; omega)
set_option linter.unusedSimpArgs false in
set_option maxRecDepth 100000 in
set_option maxHeartbeats 4000000 in
theorem statesOfCycle_any (v : Mv) (x : Ss) (w : World) (hr : RdMe w v) :
    Calls Tryz.prog 18 #[mvVal v, ssVal x] w (MakesSs2 30 w (statesOfCycle v.me x).1 (statesOfCycle v.me x).2) := by
  have HX := Lib.hid (Soc.start (x := x) hr)
  by_cases hc : codeLu v.me x = 0
  rotate_left
  · have HL := Lib.hid (fun W (hW : RdMe W v) => lookupOf_no v x W hW hc)
    rw [show statesOfCycle v.me x = ([], codeLu v.me x) from by unfold statesOfCycle; rw [if_neg hc]]
    generalize codeLu v.me x = c at HL hc ⊢
    have hcb : (c != 0) = true := by simp [hc]
    clear hr hc
    unfold mvVal at HL ⊢
    unfold ssVal at HL ⊢
    go_enter Tryz.func18, Tryz.ntmps18
    go_upto_region 1 with fail
    generalize (w.alloc (.cells #[.int .i64 v.id, .slice v.no v.n.length v.nc, .slice v.mo v.cs.length v.mc, .slice v.eo v.e.length v.ec] 28)).alloc (.cells #[.int .i64 x.t, .int .i64 x.m, .int .i64 x.r, .int .i64 x.s, .int .i64 x.k] 30) = w1 at HX ⊢
    obtain ⟨z0, z1, z2, z3⟩ := HX.out.bx.all
    have x0 := HX.out.st.c0; have x1 := HX.out.st.c1; have x2 := HX.out.st.c2; have x3 := HX.out.st.c3; have x4 := HX.out.st.c4
    go_wp2_with fail
    refine (HL.out _ HX.out.rd).mono ?_
    rintro e w2 ⟨rfl, b2⟩
    clear z0 z1 z2 z3 x0 x1 x2 x3 x4
    go_wp2_with fail
    go_ret2
    exact ⟨_, rfl, OwnSs.nil_, (HX.out.call b2).below⟩
  have HL := Lib.hid (fun W (hW : RdMe W v) => lookupOf_yes v x W hW hc)
  obtain ⟨h1, h2⟩ := codeLu_yes hc
  have hw := medl_iff.1 h1
  obtain ⟨j, R, S, r, s, hy⟩ := belongs_get hw h2
  have hRS : R * S ≤ 128 := Nat.le_trans (Nat.mul_le_mul hy.R8 hy.S16) (by omega)
  rw [show statesOfCycle v.me x = (statesTo v.me x (R * S), 0) from by unfold statesOfCycle; rw [if_pos hc, hy.hm, Int.toNat_natCast, hy.Rn, hy.Sn]]
  have HD := Lib.hid (fun b k W hl (hW : RdMe W v) => (by obtain ⟨r', s', hk, -⟩ := hy.iter hw k; exact luNext_any (b := b) (d := 0) (sv := .slice none 0 0) W hl hW hw hk : Calls Tryz.prog 72 #[.pointer (some ⟨b, 0, none⟩), ssVal (iterL v.me x k)] W fun e w' => e = .returned (ssVal (nextOf v.me (iterL v.me x k))) ∧ Below W.heap.size W w'))
  have hjc : j < v.cs.length := by have e : v.me.modes.length = v.cs.length := mds_len v.cs; have := hy.hj; omega
  have HCY := Lib.hid (fun W (hW : RdMe W v) => cycleOf_any v j W hW hw.full hjc)
  have hln : (inMode v.e j).length = R * S := hy.hl
  obtain ⟨P, hP⟩ : ∃ P, R * S = P := ⟨_, rfl⟩
  rw [hP] at hRS hln ⊢
  have HXM := Lib.hid hy.hm
  obtain ⟨F, hF⟩ : ∃ F : Nat → Ss, iterL v.me x = F := ⟨_, rfl⟩
  obtain ⟨Z, hZ⟩ : ∃ Z : Nat → List Ss, statesTo v.me x = Z := ⟨_, rfl⟩
  have HF0 := Lib.hid (show F 0 = x from by rw [← hF]; rfl)
  have HFN := Lib.hid (fun k => (show nextOf v.me (F k) = F (k + 1) from by rw [← hF]; rfl))
  have HZ0 := Lib.hid (show Z 0 = [] from by rw [← hZ]; rfl)
  have HZN := Lib.hid (fun k => (show Z (k + 1) = Z k ++ [F k] from by rw [← hF, ← hZ]; exact statesTo_next ..))
  have HZL := Lib.hid (fun k => (show (Z k).length = k from by rw [← hZ]; exact statesTo_len ..))
  rw [hZ]
  rw [hF] at HD
  clear hF hZ hc h1 h2 hw hy hP hjc hr
  generalize inMode v.e j = E9 at HCY hln
  unfold mvVal at HL HCY ⊢
  unfold ssVal at HL HD ⊢
  go_enter Tryz.func18, Tryz.ntmps18
  go_upto_region 1 with fail
  generalize (w.alloc (.cells #[.int .i64 v.id, .slice v.no v.n.length v.nc, .slice v.mo v.cs.length v.mc, .slice v.eo v.e.length v.ec] 28)).alloc (.cells #[.int .i64 x.t, .int .i64 x.m, .int .i64 x.r, .int .i64 x.s, .int .i64 x.k] 30) = w1 at HX ⊢
  obtain ⟨z0, z1, z2, z3⟩ := HX.out.bx.all
  have x0 := HX.out.st.c0; have x1 := HX.out.st.c1; have x2 := HX.out.st.c2; have x3 := HX.out.st.c3; have x4 := HX.out.st.c4
  have hsz := StateAt.lt HX.out.st
  go_wp2_with fail
  refine (HL.out _ HX.out.rd).mono ?_
  rintro e w2 ⟨b, rfl, hb, hlk, b2⟩
  have HX2 := Lib.hid (HX.out.call b2)
  have HLK := Lib.hid hlk
  have HBB := Lib.hid (show w.heap.size + 2 ≤ b by omega)
  clear z0 z1 z2 z3 x0 x1 x2 x3 x4 b2 HX HL hlk hb hsz
  obtain ⟨z0, z1, z2, z3⟩ := HX2.out.bx.all
  have x1 := HX2.out.st.c1
  rw [HXM.out] at x1
  go_wp2_with fail
  refine (HCY.out _ HX2.out.rd).mono ?_
  rintro e w3 ⟨so, sc, rfl, -, -, -, b3⟩
  have HX3 := Lib.hid (HX2.out.call b3)
  have HLK3 := Lib.hid (HLK.out.below b3 HLK.out.lt)
  rw [hln]
  clear z0 z1 z2 z3 x1 b3 HX2 HLK HCY
  go_wp2_with (at_make; refine make_ss _ rfl _ _ rfl w3.heap.size Tryz.underlying33 infoSs _ _ _ _ P rfl rfl rfl rfl (by omega) (Nat.le_refl _) ?_; intro w4 o4 b4)
  have HX4 := Lib.hid (HX3.out.call b4)
  have HLK4 := Lib.hid (HLK3.out.below b4 HLK3.out.lt)
  have HO4 := Lib.hid (show OwnSs 30 w4 w3.heap.size (.slice (some ⟨w3.heap.size, 0, none⟩) P P) (fillSs Z P 0) from by unfold fillSs; rw [HZ0.out]; exact o4)
  have HB3 := Lib.hid (show b < w3.heap.size from HLK3.out.lt)
  have HS3 := Lib.hid (show w.heap.size + 1 < w3.heap.size from StateAt.lt HX3.out.st)
  have HBE := Lib.hid (HX3.out.below.size)
  clear o4 b4 HX3 HLK3
  go_wp2_with fail
  go_loopw [27] (fun i wr => ∃ k : Nat, k ≤ P ∧ i = .int .i64 k ∧ Hid (Soc w wr v (F k)) ∧ Hid (LkAt wr b v 0 0 (.slice none 0 0)) ∧ Hid (OwnSs 30 wr w3.heap.size (.slice (some ⟨w3.heap.size, 0, none⟩) P P) (fillSs Z P k))) (fun i _ => P - (intOf i).toNat)
  case atStart => exact ⟨0, Nat.zero_le _, rfl, Lib.hid (by rw [HF0.out]; exact HX4.out), HLK4, HO4⟩
  case round =>
    clear HX4 HLK4 HO4
    obtain ⟨k, hk, rfl, HX5, HLK5, HO5⟩ := hrel
    by_cases hlt : k < P
    · have hlti : (k : Int) < (P : Int) := by omega
      have HNK := Lib.hid (fillSs_step (Z := Z) (HZL.out k) hlt (HZN.out k))
      have HNL := fillSs_len (Z := Z) (HZL.out k) hk
      obtain ⟨hin, ⟨f0, f1, f2, f3, f4⟩, hst, hbl⟩ := HO5.out.store HNL hlt (F k)
      rw [HNK.out] at hst
      have HNX := Lib.hid (fun b W hl hW => (by have h := HD.out b k W hl hW; rwa [HFN.out k] at h : Calls Tryz.prog 72 #[.pointer (some ⟨b, 0, none⟩), .agg #[.int .i64 (F k).t, .int .i64 (F k).m, .int .i64 (F k).r, .int .i64 (F k).s, .int .i64 (F k).k]] W fun e w' => e = .returned (.agg #[.int .i64 (F (k + 1)).t, .int .i64 (F (k + 1)).m, .int .i64 (F (k + 1)).r, .int .i64 (F (k + 1)).s, .int .i64 (F (k + 1)).k]) ∧ Below W.heap.size W w'))
      obtain ⟨i0, i1, i2, i3, i4⟩ := hin
      have HX6 := Lib.hid (HX5.out.far (hbl.mono (by have := HS3.out; omega)))
      have HLK6 := Lib.hid (HLK5.out.below hbl HB3.out)
      have HO6 := Lib.hid hst
      have x0 := HX5.out.st.c0; have x1 := HX5.out.st.c1; have x2 := HX5.out.st.c2; have x3 := HX5.out.st.c3; have x4 := HX5.out.st.c4
      clear hst hbl HNL HNK
      go_upto_region 9 with fail
      change Code.wp _ _ _ _ (setSs wr w3.heap.size (k * 5) (F k))
      clear i0 i1 i2 i3 i4 f0 f1 f2 f3 f4 x0 x1 x2 x3 x4
      generalize setSs wr w3.heap.size (k * 5) (F k) = w6 at HX6 HLK6 HO6 ⊢
      have x0 := HX6.out.st.c0; have x1 := HX6.out.st.c1; have x2 := HX6.out.st.c2; have x3 := HX6.out.st.c3; have x4 := HX6.out.st.c4
      go_wp2_with fail
      refine (HNX.out b _ HLK6.out HX6.out.rd).mono ?_
      rintro e w7 ⟨rfl, b7⟩
      have HX7 := Lib.hid (HX6.out.call b7)
      have HLK7 := Lib.hid (HLK6.out.below b7 HLK6.out.lt)
      have HO7 := Lib.hid (HO6.out.below b7)
      clear x0 x1 x2 x3 x4 b7 HX6 HLK6 HO6
      have x0 := HX7.out.st.c0; have x1 := HX7.out.st.c1; have x2 := HX7.out.st.c2; have x3 := HX7.out.st.c3; have x4 := HX7.out.st.c4
      have f0 := HX7.out.st.f 0; have f1 := HX7.out.st.f 1; have f2 := HX7.out.st.f 2; have f3 := HX7.out.st.f 3; have f4 := HX7.out.st.f 4
      have HX8 := Lib.hid (HX7.out.put (F (k + 1)))
      have hg8 := grownF w7 (w.heap.size + 1) (F (k + 1)).t (F (k + 1)).m (F (k + 1)).r (F (k + 1)).s (F (k + 1)).k
      have HLK8 := Lib.hid (HLK7.out.grown hg8 (fun e => by injection e with e; have := HBB.out; omega))
      have HO8 := Lib.hid (HO7.out.old17 hg8 HS3.out)
      clear hg8 HX7 HLK7 HO7
      go_upto_region 10 with fail
      change Code.wp _ _ _ _ (setFive w7 (w.heap.size + 1) (F (k + 1)).t (F (k + 1)).m (F (k + 1)).r (F (k + 1)).s (F (k + 1)).k)
      clear x0 x1 x2 x3 x4 f0 f1 f2 f3 f4
      generalize setFive w7 (w.heap.size + 1) (F (k + 1)).t (F (k + 1)).m (F (k + 1)).r (F (k + 1)).s (F (k + 1)).k = w8 at HX8 HLK8 HO8 ⊢
      go_wp2_with fail
      go_roundw
      case rel => exact ⟨k + 1, by omega, by go_num, HX8, HLK8, HO8⟩
      case measure => simp [intOf]; omega
    · have hkn : k = P := by omega
      subst hkn
      have HE := Lib.hid (show fillSs Z k k = Z k from by unfold fillSs; rw [Nat.sub_self]; simp)
      go_wp2_with fail
      go_ret2
      exact ⟨_, rfl, by rw [← HE.out]; exact HO5.out.more HBE.out, HX5.out.below⟩
end

section
open Go.RowKit
theorem SsIn.all {w : World} {b off : Nat} {x : Ss} (h : SsIn w b off x) : w.cell? ⟨b, off, none⟩ = some (.int .i64 x.t) ∧ w.cell? ⟨b, off + 1, none⟩ = some (.int .i64 x.m) ∧ w.cell? ⟨b, off + 2, none⟩ = some (.int .i64 x.r) ∧ w.cell? ⟨b, off + 3, none⟩ = some (.int .i64 x.s) ∧ w.cell? ⟨b, off + 4, none⟩ = some (.int .i64 x.k) := ⟨h.c0, h.c1, h.c2, h.c3, h.c4⟩
theorem eqss_any (x : Ss) (w : World) : Calls Tryz.prog 116 #[ssVal x, ssVal x] w fun e w' => e = .returned (.bool true) ∧ Below w.heap.size w w' := by
  have h0 : (x.t != x.t) = false := by simp
  have h1 : (x.m != x.m) = false := by simp
  have h2 : (x.r != x.r) = false := by simp
  have h3 : (x.s != x.s) = false := by simp
  have h4 : (x.k != x.k) = false := by simp
  unfold ssVal
  go_enter Tryz.func116, Tryz.ntmps116
  go_wp2
  go_ret
  exact ⟨rfl, ((Below.refl _ _).alloc (Nat.le_refl _) _).alloc (by simp) _⟩
set_option maxHeartbeats 1000000 in
set_option maxRecDepth 100000 in
set_option linter.unusedSimpArgs false in
theorem eqsss_yes (ao bo : Option Addr) (n c d : Nat) (t : List Ss) (w : World) (hx : RdSs w ao n t) (hy : RdSs w bo n t) (hn : n ≤ 9223372036854775807) (hc : n ≤ c) (hd : n ≤ d) :
    Calls Tryz.prog 60 #[.slice ao n c, .slice bo n d] w fun e w' => e = .returned (.bool true) ∧ Below w.heap.size w w' := by
  have HX := Lib.hid hx; have HY := Lib.hid hy; clear hx hy
  have hne : ((n : Int) != (n : Int)) = false := by simp
  go_enter Tryz.func60, Tryz.ntmps60
  go_wp2_with fail
  clear hne
  go_loopw [5] (fun i wr => ∃ k : Nat, k ≤ n ∧ i = .int .i64 k ∧ Below w.heap.size w wr) (fun i _ => n - (intOf i).toNat)
  case atStart => exact ⟨0, Nat.zero_le _, rfl, Below.refl _ _⟩
  case round =>
    obtain ⟨k, hk, rfl, hb⟩ := hrel
    by_cases hlt : k < n
    · obtain ⟨g, off, rfl, hg, hx⟩ := HX.out.at hlt
      obtain ⟨g', off', rfl, hg', hy⟩ := HY.out.at hlt
      replace hx := hx.below hb hg
      replace hy := hy.below hb hg'
      have HB := Lib.hid hb; clear hb
      obtain ⟨x, hxe⟩ : ∃ x, x = ssOf t k := ⟨_, rfl⟩
      rw [← hxe] at hx hy
      clear hxe
      have HXW := Lib.hid (fun W (hW : Below wr.heap.size wr W) => (hx.below hW hx.lt).all)
      have HYW := Lib.hid (fun W (hW : Below wr.heap.size wr W) => (hy.below hW hy.lt).all)
      have HD := Lib.hid (show Below wr.heap.size wr wr.drew from Below.drew (Below.refl _ _))
      have HCALL := Lib.hid (fun W => eqss_any x W)
      unfold ssVal at HCALL
      clear hx hy hg hg'
      go_upto_region 6 with fail
      refine wp_region_held_drew (S := fun w' => (w'.cell? ⟨g, off + k * 5, none⟩ = some (Value.int .i64 x.t) ∧ w'.cell? ⟨g, off + k * 5 + 1, none⟩ = some (Value.int .i64 x.m) ∧ w'.cell? ⟨g, off + k * 5 + 2, none⟩ = some (Value.int .i64 x.r) ∧ w'.cell? ⟨g, off + k * 5 + 3, none⟩ = some (Value.int .i64 x.s) ∧ w'.cell? ⟨g, off + k * 5 + 4, none⟩ = some (Value.int .i64 x.k)) ∧ (w'.cell? ⟨g', off' + k * 5, none⟩ = some (Value.int .i64 x.t) ∧ w'.cell? ⟨g', off' + k * 5 + 1, none⟩ = some (Value.int .i64 x.m) ∧ w'.cell? ⟨g', off' + k * 5 + 2, none⟩ = some (Value.int .i64 x.r) ∧ w'.cell? ⟨g', off' + k * 5 + 3, none⟩ = some (Value.int .i64 x.s) ∧ w'.cell? ⟨g', off' + k * 5 + 4, none⟩ = some (Value.int .i64 x.k))) (by kernel_rfl) (⟨HXW.out _ HD.out, HYW.out _ HD.out⟩) (fun hHeld => ?_)
      generalize wr.drew = w1 at HD hHeld ⊢
      refine tk (i := 0) (v := ?_) rfl (Or.inl ⟨by rfl, ?_⟩) (by assumption) ?_
      rotate_left
      · (intro w hSw; (try dsimp only at hSw); go_simp; (try with_reducible rfl))
      try simp only [pa, pb, pc, Act.put, pe, pf, pg]
      refine tk (i := 1) (v := ?_) rfl (Or.inl ⟨by rfl, ?_⟩) (by assumption) ?_
      rotate_left
      · (intro w hSw; (try dsimp only at hSw); go_simp; (try with_reducible rfl))
      try simp only [pa, pb, pc, Act.put, pe, pf, pg]
      refine tk (i := 2) (v := ?_) rfl (Or.inl ⟨by rfl, ?_⟩) (by assumption) ?_
      rotate_left
      · (intro w hSw; (try dsimp only at hSw); go_simp; (try with_reducible rfl))
      try simp only [pa, pb, pc, Act.put, pe, pf, pg]
      refine tk (i := 3) (v := ?_) rfl (Or.inl ⟨by rfl, ?_⟩) (by assumption) ?_
      rotate_left
      · (intro w hSw; (try dsimp only at hSw); go_simp; (try with_reducible rfl))
      try simp only [pa, pb, pc, Act.put, pe, pf, pg]
      refine tk (i := 4) (v := ?_) rfl (Or.inl ⟨by rfl, ?_⟩) (by assumption) ?_
      rotate_left
      · (intro w hSw; (try dsimp only at hSw); go_simp; (try with_reducible rfl))
      try simp only [pa, pb, pc, Act.put, pe, pf, pg]
      refine tk (i := 5) (v := ?_) rfl (Or.inl ⟨by rfl, ?_⟩) (by assumption) ?_
      rotate_left
      · (intro w hSw; (try dsimp only at hSw); go_simp; (try with_reducible rfl))
      try simp only [pa, pb, pc, Act.put, pe, pf, pg]
      refine tk (i := 6) (v := ?_) rfl (Or.inl ⟨by rfl, ?_⟩) (by assumption) ?_
      rotate_left
      · (intro w hSw; (try dsimp only at hSw); go_simp; (try with_reducible rfl))
      try simp only [pa, pb, pc, Act.put, pe, pf, pg]
      refine tk (i := 7) (v := ?_) rfl (Or.inl ⟨by rfl, ?_⟩) (by assumption) ?_
      rotate_left
      · (intro w hSw; (try dsimp only at hSw); go_simp; (try with_reducible rfl))
      try simp only [pa, pb, pc, Act.put, pe, pf, pg]
      refine wpAnyH_ready (rs := [8]) (by kernel_rfl) (by simp) (AllReadyH.cons rfl (fun K hK => ?_) AllReadyH.nil)
      go_simp
      refine (HCALL.out _).mono ?_
      rintro e w2 ⟨rfl, b2⟩
      have HD2 := Lib.hid (below_two HD.out b2); clear b2
      go_wp2_with fail
      refine hK.out _ _ ?_ (fun hHeld => ?_)
      · exact ⟨HXW.out _ HD2.out, HYW.out _ HD2.out⟩
      clear hK K
      try simp only [pa, pb, pc, Act.put, pe, pf, pg]
      refine tk (i := 9) (v := ?_) rfl (Or.inl ⟨by rfl, ?_⟩) (by assumption) ?_
      rotate_left
      · (intro w hSw; (try dsimp only at hSw); go_simp; (try with_reducible rfl))
      try simp only [pa, pb, pc, Act.put, pe, pf, pg]
      refine wpAnyH_done (by kernel_rfl) ?_ _
      have HBE := Lib.hid (below_two HB.out HD2.out)
      go_wp2_with fail
      go_roundw
      case rel => exact ⟨k + 1, by omega, by go_num, HBE.out⟩
      case measure => simp [intOf]; omega
    · have hkn : k = n := by omega
      subst hkn
      have HB := Lib.hid hb; clear hb
      go_wp2_with fail
      go_ret
      exact ⟨rfl, HB.out⟩
def mkSs (q : Int) (k : Nat) : Ss := ⟨q + 5 * k, q + 5 * k + 1, q + 5 * k + 2, q + 5 * k + 3, q + 5 * k + 4⟩
def marksSs (q : Int) (n : Nat) : List Ss := (List.range n).map (mkSs q)
theorem marksSs_len (q : Int) (n : Nat) : (marksSs q n).length = n := by simp [marksSs]
theorem marksSs_at {q : Int} {n k : Nat} (h : k < n) : ssOf (marksSs q n) k = mkSs q k := by
  rw [ssOf_get (by rw [marksSs_len]; exact h)]
  simp [marksSs]
def markToSs (q : Int) (t : List Ss) (k : Nat) : List Ss := marksSs q k ++ t.drop k
theorem markToSs_zero (q : Int) (t : List Ss) : markToSs q t 0 = t := by simp [markToSs, marksSs]
theorem markToSs_all (q : Int) (t : List Ss) : markToSs q t t.length = marksSs q t.length := by simp [markToSs]
theorem markToSs_len (q : Int) (t : List Ss) (k : Nat) (h : k ≤ t.length) : (markToSs q t k).length = t.length := by
  unfold markToSs; rw [List.length_append, marksSs_len, List.length_drop]; omega
theorem markToSs_succ (q : Int) (t : List Ss) (k : Nat) (h : k < t.length) : (markToSs q t k).set k (mkSs q k) = markToSs q t (k + 1) := by
  unfold markToSs
  rw [List.set_append_right _ _ (by rw [marksSs_len]; exact Nat.le_refl _), marksSs_len, Nat.sub_self, List.drop_eq_getElem_cons h, List.set_cons_zero]
  rw [show marksSs q (k + 1) = marksSs q k ++ [mkSs q k] from by simp [marksSs, List.range_succ]]
  simp
theorem mkSs_eq {q : Int} {k K : Nat} (h : q + 5 * (k : Int) = (K : Int)) : mkSs q k = ⟨(K : Int), (K : Int) + 1, (K : Int) + 1 + 1, (K : Int) + 1 + 1 + 1, (K : Int) + 1 + 1 + 1 + 1⟩ := by
  unfold mkSs
  rw [h, show (K : Int) + 2 = (K : Int) + 1 + 1 from by omega, show (K : Int) + 3 = (K : Int) + 1 + 1 + 1 from by omega, show (K : Int) + 4 = (K : Int) + 1 + 1 + 1 + 1 from by omega]
theorem grown_setSs (w : World) (g off : Nat) (x : Ss) : w.grownBy (setSs w g off x) (some g) := by
  unfold setSs
  exact grown_trans (grown_trans (grown_trans (grown_trans (grown_set w g off _) (grown_set _ g _ _)) (grown_set _ g _ _)) (grown_set _ g _ _)) (grown_set _ g _ _)
set_option maxHeartbeats 4000000 in
set_option maxRecDepth 100000 in
theorem marksss_row (g n cap base : Nat) (t : List Ss) (q : Int) (w : World) (hl : t.length = n) (ho : OwnSs 30 w base (.slice (some ⟨g, 0, none⟩) n cap) t) (hn : n ≤ 4194304) (hq0 : 1 ≤ q) (hq1 : q ≤ 16777216) :
    Calls Tryz.prog 63 #[.slice (some ⟨g, 0, none⟩) n cap, .int .i64 q] w fun e w' => e = .returned (.int .i64 (q + ((5 * n : Nat) : Int))) ∧ OwnSs 30 w' base (.slice (some ⟨g, 0, none⟩) n cap) (marksSs q n) ∧ w.grownBy w' (some g) := by
  have HL := Lib.hid hl
  have ho' : OwnSs 30 w base (.slice (some ⟨g, 0, none⟩) n cap) (markToSs q t 0) := by rw [markToSs_zero]; exact ho
  have HO := Lib.hid ho'; clear ho ho'
  go_enter Tryz.func63, Tryz.ntmps63
  go_wp2_with fail
  go_loopw [1, 5] (fun v i wr => ∃ k : Nat, k ≤ n ∧ i = .int .i64 k ∧ v = .int .i64 (q + 5 * k) ∧ Hid (OwnSs 30 wr base (.slice (some ⟨g, 0, none⟩) n cap) (markToSs q t k)) ∧ Hid (w.grownBy wr (some g))) (fun _ i _ => n - (intOf i).toNat)
  case atStart => exact ⟨0, Nat.zero_le _, rfl, by simp, HO.out, World.grownBy.refl _ _⟩
  case round =>
    clear HO
    obtain ⟨k, hk, rfl, rfl, ho, HG⟩ := hrel
    by_cases hlt : k < n
    · have hkt : k < t.length := by rw [HL.out]; exact hlt
      obtain ⟨K, hK⟩ : ∃ K : Nat, K = (q + 5 * k).toNat := ⟨_, rfl⟩
      have hKi : q + 5 * (k : Int) = (K : Int) := by omega
      have hK0 : 0 < K := by omega
      have hK1 : K ≤ 67108864 := by omega
      have HNEXT := Lib.hid (show q + 5 * ((k + 1 : Nat) : Int) = (K : Int) + 1 + 1 + 1 + 1 + 1 from by omega)
      obtain ⟨hin, ⟨fz0, fz1, fz2, fz3, fz4⟩, hst, -⟩ := ho.out.store ((markToSs_len q t k (by omega)).trans HL.out) hlt (mkSs q k)
      rw [markToSs_succ q t k hkt, mkSs_eq hKi] at hst
      have HST := Lib.hid hst
      have HG2 := Lib.hid (grown_trans HG.out (grown_setSs wr g (k * 5) ⟨(K : Int), (K : Int) + 1, (K : Int) + 1 + 1, (K : Int) + 1 + 1 + 1, (K : Int) + 1 + 1 + 1 + 1⟩))
      rw [hKi]
      generalize ssOf (markToSs q t k) k = z at hin
      obtain ⟨z0, z1, z2, z3, z4⟩ := hin
      clear hst hK hKi hkt ho HG
      go_wp2_with fail
      clear z0 z1 z2 z3 z4 fz0 fz1 fz2 fz3 fz4
      go_roundw
      case rel => exact ⟨k + 1, by omega, by go_num, by rw [HNEXT.out], HST, HG2⟩
      case measure => simp [intOf]; omega
    · have hkn : k = n := by omega
      subst hkn
      go_wp2_with fail
      go_ret
      exact ⟨by congr 3, by have h := ho.out; rw [← HL.out, markToSs_all] at h; rw [HL.out] at h; exact h, HG.out⟩
theorem marksss_any (ao : Option Addr) (n cap base : Nat) (t : List Ss) (q : Int) (w : World) (hl : t.length = n) (ho : OwnSs 30 w base (.slice ao n cap) t) (hn : n ≤ 4194304) (hq0 : 1 ≤ q) (hq1 : q ≤ 16777216) :
    Calls Tryz.prog 63 #[.slice ao n cap, .int .i64 q] w fun e w' => e = .returned (.int .i64 (q + ((5 * n : Nat) : Int))) ∧ OwnSs 30 w' base (.slice ao n cap) (marksSs q n) ∧ w.grownBy w' (Value.ownBlock (.slice ao n cap)) := by
  obtain ⟨ao', cap', e, -, -, -, hcase⟩ := ho.form
  rw [hl] at e
  cases e
  rcases hcase with hnil | ⟨g, rfl, -, -⟩
  · simp only [Value.slice.injEq] at hnil
    obtain ⟨rfl, rfl, rfl⟩ := hnil
    clear ho
    go_enter Tryz.func63, Tryz.ntmps63
    go_wp2
    refine wp_loop_rounds 1 ?_
    rw [rounds_succ]
    go_wp2
    go_ret
    exact ⟨ret_int (by simp), OwnSs.nil_, World.grownBy.refl _ _⟩
  · exact marksss_row g n cap base t q w hl ho hn hq0 hq1
set_option maxHeartbeats 4000000 in
set_option maxRecDepth 100000 in
theorem heldsss_yes (ao : Option Addr) (n cap : Nat) (q : Int) (w : World) (hr : RdSs w ao n (marksSs q n)) (hn : n ≤ 4194304) (hq0 : 1 ≤ q) (hq1 : q ≤ 16777216) :
    Calls Tryz.prog 64 #[.slice ao n cap, .int .i64 q] w fun e w' => e = .returned (.int .i64 (q + ((5 * n : Nat) : Int))) ∧ Below w.heap.size w w' := by
  have HR := Lib.hid hr; clear hr
  go_enter Tryz.func64, Tryz.ntmps64
  go_wp2_with fail
  go_loopw [1, 5] (fun v i wr => ∃ k : Nat, k ≤ n ∧ i = .int .i64 k ∧ v = .int .i64 (q + 5 * k) ∧ Hid (Below w.heap.size w wr)) (fun _ i _ => n - (intOf i).toNat)
  case atStart => exact ⟨0, Nat.zero_le _, rfl, by simp, Below.refl _ _⟩
  case round =>
    obtain ⟨k, hk, rfl, rfl, HB⟩ := hrel
    by_cases hlt : k < n
    · obtain ⟨g, off, rfl, hg, hx⟩ := HR.out.at hlt
      rw [marksSs_at hlt] at hx
      replace hx := hx.below HB.out hg
      obtain ⟨K, hK⟩ : ∃ K : Nat, K = (q + 5 * k).toNat := ⟨_, rfl⟩
      have hKi : q + 5 * (k : Int) = (K : Int) := by omega
      have hK0 : 0 < K := by omega
      have hK1 : K ≤ 67108864 := by omega
      have HNEXT := Lib.hid (show q + 5 * ((k + 1 : Nat) : Int) = (K : Int) + 1 + 1 + 1 + 1 + 1 from by omega)
      rw [mkSs_eq hKi] at hx
      rw [hKi]
      obtain ⟨h0, h1, h2, h3, h4⟩ := hx
      clear hK hKi hg
      have n0 : ((K : Int) != (K : Int)) = false := by simp
      go_wp2_with fail
      clear h0 h1 h2 h3 h4 n0
      go_roundw
      case rel => exact ⟨k + 1, by omega, by go_num, by rw [HNEXT.out], HB⟩
      case measure => simp [intOf]; omega
    · have hkn : k = n := by omega
      subst hkn
      go_wp2_with fail
      go_ret
      exact ⟨by congr 3, HB.out⟩
def itsSs (E : Nat) (v : Value) (t : List Ss) : It := ⟨v, E, 5, t.length, t.flatMap ssCells⟩
section
variable {w0 w w' : World} {L : List It} {E : Nat} {v : Value} {t : List Ss}
theorem Hold.makeSs (h : Hold w0 w L) (o : OwnSs E w' w.heap.size v t) (b : Below w.heap.size w w') : Hold w0 w' (itsSs E v t :: L) := h.make (p := itsSs E v t) o b
theorem Hold.getSs (h : Hold w0 w L) (i : Nat) (hi : L[i]? = some (itsSs E v t)) : OwnSs E w w0.heap.size v t := h.own (itsSs E v t) (List.mem_of_getElem? hi)
theorem Hold.rdSs {ao : Option Addr} {n cap : Nat} (h : Hold w0 w L) (i : Nat) (hi : L[i]? = some (itsSs E (.slice ao n cap) t)) : RdSs w ao t.length t := by
  obtain ⟨ao', cap', e, o, r⟩ := (h.getSs i hi).get
  cases e
  exact r
theorem Hold.capSs {ao : Option Addr} {n cap : Nat} (h : Hold w0 w L) (i : Nat) (hi : L[i]? = some (itsSs E (.slice ao n cap) t)) : n ≤ cap := (h.getSs i hi).cap.1
end
structure BySs (w0 W : World) (K5 : Nat) (v5 : Mv) (p4 : Option Addr) (c4 : Nat) (p7 : Option Addr) (c7 : Nat) (r0 : List Ss) : Prop where
  h : Hold w0 W ([itsSs 30 (.slice p7 r0.length c7) r0] ++ ([bxI TM K5 v5] ++ (mesOf v5 v5.n v5.cs v5.e ++ ([itsSs 30 (.slice p4 r0.length c4) r0] ++ []))))
section
variable {w0 W W' : World} {K5 : Nat} {v5 : Mv} {p4 p7 : Option Addr} {c4 c7 : Nat} {r0 : List Ss}
theorem BySs.call (h : BySs w0 W K5 v5 p4 c4 p7 c7 r0) (b : Below W.heap.size W W') : BySs w0 W' K5 v5 p4 c4 p7 c7 r0 := ⟨h.h.still b⟩
theorem BySs.b5 (h : BySs w0 W K5 v5 p4 c4 p7 c7 r0) : MvAt TM W K5 v5 := Hold.getB (L1 := []) h.h.tail_
theorem BySs.r5 (h : BySs w0 W K5 v5 p4 c4 p7 c7 r0) (hs : Small v5.me) : RdMe W v5 := (Hold.getMe_ (L1 := []) h.h.tail_.tail_).rd hs
theorem BySs.g (h : BySs w0 W K5 v5 p4 c4 p7 c7 r0) : RdSs W p7 r0.length r0 := h.h.rdSs 0 rfl
theorem BySs.w (h : BySs w0 W K5 v5 p4 c4 p7 c7 r0) : RdSs W p4 r0.length r0 := (h.h.tail_.tail_.tailMe).rdSs 0 rfl
theorem BySs.gc (h : BySs w0 W K5 v5 p4 c4 p7 c7 r0) : r0.length ≤ c7 := h.h.capSs 0 rfl
theorem BySs.wc (h : BySs w0 W K5 v5 p4 c4 p7 c7 r0) : r0.length ≤ c4 := (h.h.tail_.tail_.tailMe).capSs 0 rfl
theorem BySs.mark (h : BySs w0 W K5 v5 p4 c4 p7 c7 r0) (hs : Small v5.me) : Calls Tryz.prog 62 #[mvVal v5, .int .i64 1] W fun e w' => e = .returned (.int .i64 (markTot v5 : Nat)) ∧ Hold w0 w' [itsSs 30 (.slice p7 r0.length c7) r0, itsSs 30 (.slice p4 r0.length c4) r0] := by
  have g := h.h
  have e : ∀ X : List It, [itsSs 30 (.slice p7 r0.length c7) r0] ++ ([bxI TM K5 v5] ++ X) = ([itsSs 30 (.slice p7 r0.length c7) r0] ++ [bxI TM K5 v5]) ++ X := fun X => by simp only [List.append_assoc]
  rw [e] at g
  refine (markMe_any v5 _ _ w0 W hs g).mono ?_
  rintro q w2 ⟨rfl, h2⟩
  refine ⟨rfl, ?_⟩
  have h3 := h2.drop
  have h4 : Hold w0 w2 ([itsSs 30 (.slice p7 r0.length c7) r0] ++ ([bxI TM K5 v5] ++ ([itsSs 30 (.slice p4 r0.length c4) r0] ++ []))) := by simpa only [List.append_assoc] using h3
  exact h4.drop
end
theorem statesOfCycle_len (m : Me) (x : Ss) : (statesOfCycle m x).1.length ≤ 1048576 := by
  unfold statesOfCycle
  split
  · rename_i hc
    obtain ⟨h1, h2⟩ := codeLu_yes hc
    obtain ⟨j, R, S, r, s, hy⟩ := belongs_get (medl_iff.1 h1) h2
    rw [statesTo_len, hy.hm, Int.toNat_natCast, hy.Rn, hy.Sn]
    exact Nat.le_trans (Nat.mul_le_mul hy.R8 hy.S16) (by omega)
  · simp
end
end Go.Proofs.YthihjhidjnadaaaGreat
