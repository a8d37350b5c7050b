/-
  Slices of entries of the call's own: written, made, appended to; several slices of the call's own, of numbers and of entries. No program is named here.
-/
import Derived.Test.YtpedlofckbplmaaN8
import Derived.Test.YtpedlofckbplmaaHl
namespace Go.Proofs.Ytpedlofckbplmaa
open Go.RowKit

/-! ### an entry's field written -/
theorem ndOf_set {t : List Nd} {k : Nat} (h : k < t.length) (y : Nd) : ndOf (t.set k y) k = y := by simp [ndOf, List.getD, h]
theorem flatN_set : ∀ (t : List Nd) (k : Nat), k < t.length → ∀ (j : Nat) (u : Value) (y : Nd), ndCells y = (ndCells (ndOf t k)).set j u → j < 4 → (t.flatMap ndCells).set (k * 4 + j) u = (t.set k y).flatMap ndCells
  | [], _, h, _, _, _, _, _ => by simp at h
  | a :: r, 0, _, j, u, y, e, hj => by
    have e2 : ndOf (a :: r) 0 = a := by simp [ndOf]
    rw [e2] at e
    rw [List.set_cons_zero, List.flatMap_cons, List.flatMap_cons, e, Nat.zero_mul, Nat.zero_add]
    rw [List.set_append_left _ _ (by simp [ndCells]; omega)]
  | a :: r, k + 1, h, j, u, y, e, hj => by
    have e2 : ndOf (a :: r) (k + 1) = ndOf r k := by simp [ndOf]
    rw [e2] at e
    rw [List.set_cons_succ, List.flatMap_cons, List.flatMap_cons, List.set_append_right _ _ (by simp [ndCells]; omega)]
    rw [show (k + 1) * 4 + j - (ndCells a).length = k * 4 + j from by simp [ndCells]; omega, flatN_set r k (by simpa using h) j u y e hj]
section
variable {E : Nat} {w : World} {base g n cap : Nat} {t : List Nd}
theorem OwnN.field (ho : OwnN E w base (.slice (some ⟨g, 0, none⟩) n cap) t) (hl : t.length = n) {k : Nat} (hk : k < n) {j : Nat} (hj : j < 4) {u : Value} {y : Nd} (e : ndCells y = (ndCells (ndOf t k)).set j u) :
    w.frozen? ⟨g, k * 4 + j, none⟩ = false ∧ OwnN E (w.setCell ⟨g, k * 4 + j, none⟩ u) base (.slice (some ⟨g, 0, none⟩) n cap) (t.set k y) ∧ Below base w (w.setCell ⟨g, k * 4 + j, none⟩ u) := by
  have hb := (ho.block g rfl).1
  unfold OwnN at ho ⊢
  rw [hl] at ho
  refine ⟨World.ownsRow.frozenAt ho _, ?_, (Below.refl _ _).setCell (by exact hb) _⟩
  have h := (World.ownsRow.stored ho (k * 4 + j) u).1
  rw [flatN_set t k (by omega) j u y e hj] at h
  rw [List.length_set, hl]
  exact h
/-- A whole entry stored into a slice of the call's own. -/
theorem OwnN.store (ho : OwnN E w base (.slice (some ⟨g, 0, none⟩) n cap) t) (hl : t.length = n) {k : Nat} (hk : k < n) (x : Nd) :
    NdIn w g (k * 4) (ndOf t k) ∧ (w.frozen? ⟨g, k * 4, none⟩ = false ∧ w.frozen? ⟨g, k * 4 + 1, none⟩ = false ∧ w.frozen? ⟨g, k * 4 + 2, none⟩ = false ∧ w.frozen? ⟨g, k * 4 + 3, none⟩ = false) ∧
      OwnN E (setNd w g (k * 4) x) base (.slice (some ⟨g, 0, none⟩) n cap) (t.set k x) ∧ Below base w (setNd w g (k * 4) x) := by
  have hin : NdIn w g (k * 4) (ndOf t k) := by
    obtain ⟨ao, cap', e, r, -⟩ := ho.form
    cases e
    obtain ⟨b, off, e, -, h⟩ := r.at (i := k) (by omega)
    cases e
    rwa [Nat.zero_add] at h
  have hkt : k < t.length := by omega
  generalize hz : ndOf t k = z at hin ⊢
  obtain ⟨f0, o0, b0⟩ := ho.field (j := 0) (u := .int .i64 x.id) (y := ⟨x.id, z.name, z.drift, z.pas⟩) hl hk (by omega) (by rw [hz]; rfl)
  obtain ⟨f1, -, -⟩ := ho.field (j := 1) (u := .string x.name) (y := ⟨z.id, x.name, z.drift, z.pas⟩) hl hk (by omega) (by rw [hz]; rfl)
  obtain ⟨f2, -, -⟩ := ho.field (j := 2) (u := .int .i64 x.drift) (y := ⟨z.id, z.name, x.drift, z.pas⟩) hl hk (by omega) (by rw [hz]; rfl)
  obtain ⟨f3, -, -⟩ := ho.field (j := 3) (u := .bool x.pas) (y := ⟨z.id, z.name, z.drift, x.pas⟩) hl hk (by omega) (by rw [hz]; rfl)
  obtain ⟨-, o1, b1⟩ := o0.field (j := 1) (u := .string x.name) (y := ⟨x.id, x.name, z.drift, z.pas⟩) (by rw [List.length_set]; exact hl) hk (by omega) (by rw [ndOf_set hkt]; rfl)
  rw [List.set_set] at o1
  obtain ⟨-, o2, b2⟩ := o1.field (j := 2) (u := .int .i64 x.drift) (y := ⟨x.id, x.name, x.drift, z.pas⟩) (by rw [List.length_set]; exact hl) hk (by omega) (by rw [ndOf_set hkt]; rfl)
  rw [List.set_set] at o2
  obtain ⟨-, o3, b3⟩ := o2.field (j := 3) (u := .bool x.pas) (y := x) (by rw [List.length_set]; exact hl) hk (by omega) (by rw [ndOf_set hkt]; rfl)
  rw [List.set_set] at o3
  exact ⟨hin, ⟨f0, f1, f2, f3⟩, o3, (((b0.trans b1).trans b2).trans b3)⟩
end

/-! ### made, appended to -/
/-- The row of the program's table for an entry. -/
abbrev InfoNd (P : Program) (E : Nat) : Prop := (P.info? E).map (fun i => (i.zero, i.size, i.bytes)) = some (some (ndVal Nd.zero), 4, 40)
theorem info_parts_n {P : Program} {E : Nat} (h : InfoNd P E) : ∃ i, P.info? E = some i ∧ i.zero = some (ndVal Nd.zero) ∧ i.size = 4 ∧ i.bytes = 40 := by
  unfold InfoNd at h
  cases hi : P.info? E with
  | none => rw [hi] at h; cases h
  | some i =>
    rw [hi] at h
    simp only [Option.map_some, Option.some.injEq, Prod.mk.injEq] at h
    exact ⟨i, rfl, h.1, h.2.1, h.2.2⟩
theorem cells_zero : (ndVal Nd.zero).cells = #[.int .i64 0, .string ByteArray.empty, .int .i64 0, .bool false] := rfl
theorem madeN (n : Nat) : (madeCells (ndVal Nd.zero).cells (n * 4)).toList = (List.replicate n Nd.zero).flatMap ndCells := by
  apply List.ext_getElem?
  intro i
  by_cases h : i < n * 4
  · have hi : i = (i / 4) * 4 + i % 4 := by omega
    have h4 : i % 4 < 4 := by omega
    conv => rhs; rw [hi]
    rw [flatN_get _ _ _ (by rw [List.length_replicate]; omega) h4]
    have hz : ndOf (List.replicate n Nd.zero) (i / 4) = Nd.zero := by
      rw [ndOf_get (by rw [List.length_replicate]; omega), List.getElem_replicate]
    rw [hz, cells_zero]
    unfold madeCells
    rw [Array.toList_map, List.getElem?_map, Array.toList_range, List.getElem?_range h]
    simp only [Option.map_some]
    have h5 : #[Value.int .i64 0, .string ByteArray.empty, .int .i64 0, .bool false].size = 4 := rfl
    rw [h5]
    generalize i % 4 = j at h4
    match j, h4 with
    | 0, _ => rfl
    | 1, _ => rfl
    | 2, _ => rfl
    | 3, _ => rfl
  · rw [List.getElem?_eq_none (by rw [Array.length_toList, size_madeCells]; omega), List.getElem?_eq_none (by rw [flatN_len, List.length_replicate]; omega)]
section
variable {P : Program} {E T : Nat} (w : World) {ops : Array Oper} {rest : List Oper} {o : Oper} {a : Act} {Q : Exit → Act → World → Prop}
/-- 'make([]NodeInfo, n)'. -/
theorem make_nd (hg : o.guard = none) (l c : Operand) (hop : o.op = Op.makeSlice T l c) (base : Nat) (ht : P.underlying T = some (.slice E)) (hi : InfoNd P E)
    (kl kc : IntKind) (L C : Int) (n : Nat) (hl : a.eval l = .int kl L) (hc : a.eval c = .int kc C) (hL : L = (n : Int)) (hC : C = (n : Int)) (hm : n ≤ 4294967296) (hb : base ≤ w.heap.size)
    (hK : ∀ w', OwnN E w' base (.slice (some ⟨w.heap.size, 0, none⟩) n n) (List.replicate n Nd.zero) → Below base w w' → wpList P ops Q rest (a.put o.dst (.slice (some ⟨w.heap.size, 0, none⟩) n n)) w') :
    wpList P ops Q (o :: rest) a w := by
  obtain ⟨i0, hi, hz0, hz1, hz2⟩ := info_parts_n hi
  refine wpList_make_full w hg l c T hop base E i0 (ndVal Nd.zero) 4 ht hi hz0 hz1 kl kc L C n hl hc hL hC (by rw [hz2]; omega) (by unfold maxLen; omega) hb ?_
  intro w' h1 h2
  refine hK w' ?_ ((Below.refl _ _).grown h2 hb (fun k h => by cases h))
  unfold OwnN
  rw [List.length_replicate, ← madeN]
  exact h1
/-- 'append(out, x)' of one entry onto a slice of the call's own. -/
theorem append_nd (hgd : o.guard = none) (s x : Operand)
    (ho : o.op = .call { callee := .builtin .append, args := #[s, x], argTypes := #[T, T] })
    (base : Nat) (ht : P.underlying T = some (.slice E)) (hi : InfoNd P E)
    (v : Value) (t : List Nd) (hs : a.eval s = v) (hown : OwnN E w base v t) (b : Nat) (y : Nd) (c : Nat) (hx : a.eval x = .slice (some ⟨b, 0, none⟩) 1 c) (hc : NdIn w b 0 y)
    (hlen : t.length ≤ 4294967296) (hbase : base ≤ w.heap.size)
    (h : ∀ v' w', OwnN E w' base v' (t ++ [y]) → Below base w w' → wpList P ops Q rest (a.put o.dst v') w') : wpList P ops Q (o :: rest) a w := by
  obtain ⟨i0, hi, hz0, hz1, hz2⟩ := info_parts_n hi
  refine wpList_append_own w hgd s x T ho base E i0 (ndVal Nd.zero) 4 40 ht hi hz0 hz1 hz2 rfl (by decide) v t.length (t.flatMap ndCells) hs hown ⟨b, 0, none⟩ 1 c (ndCells y) hx rfl ?_ ?_ (by unfold maxLen; omega) (by omega) hbase ?_
  · intro j u hj
    match j, hj with
    | 0, hj => simp [ndCells] at hj; subst hj; simpa [Addr.add] using hc.c0
    | 1, hj => simp [ndCells] at hj; subst hj; simpa [Addr.add] using hc.c1
    | 2, hj => simp [ndCells] at hj; subst hj; simpa [Addr.add] using hc.c2
    | 3, hj => simp [ndCells] at hj; subst hj; simpa [Addr.add] using hc.c3
    | j + 4, hj => simp [ndCells] at hj
  · intro u hu; simp [ndCells] at hu; rcases hu with rfl | rfl | rfl | rfl <;> rfl
  · intro v' w' h1 h2 _
    refine h v' w' ?_ ((Below.refl _ _).grown h2 hbase fun k hk => (hown.block k hk).1)
    unfold OwnN
    rw [List.length_append, List.flatMap_append]
    simpa using h1
end

end Go.Proofs.Ytpedlofckbplmaa
