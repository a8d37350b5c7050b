/-
  The builtin functions append, copy and make on slices of 64-bit numbers of the call's own, in the form that a walk takes. No program is named here.
-/
import Derived.Test.YtadmpfmpmpdbeaaHeld
import Derived.Laws.AppendOwnNone
import Derived.Laws.CopyOwn
namespace Go.Proofs.Ytadmpfmpmpdbeaa
open Go.RowKit

/-- The row of the program's table for a 64-bit number. -/
abbrev Info64 (P : Program) (E : Nat) : Prop := (P.info? E).map (fun i => (i.zero, i.size, i.bytes)) = some (some (.int .i64 0), 1, 8)

/-- The one cell of a block that has just been laid. -/
theorem new_cell {w : World} {b : Nat} (hb : b = w.heap.size) {v : Value} {t : TypeId} : (w.alloc (.cells #[v] t)).cell? ⟨b, 0, none⟩ = some v := by
  subst hb
  rw [World.cell?_alloc_at _ _ _ _ rfl]; rfl
/-- A store into a slice of the call's own: what the walk asks ahead of it, and what is owned behind it. -/
theorem own_store {E : Nat} {w : World} {base g n cap : Nat} {zs : List Int} (ho : Own E w base (.slice (some ⟨g, 0, none⟩) n cap) zs) (hl : zs.length = n) {k : Nat} (hk : k < n) (y : Int) :
    w.cell? ⟨g, k, none⟩ = some (.int .i64 (zs.getD k 0)) ∧ w.frozen? ⟨g, k, none⟩ = false ∧ Own E (w.setCell ⟨g, k, none⟩ (.int .i64 y)) base (.slice (some ⟨g, 0, none⟩) n cap) (zs.set k y) ∧ Below base w (w.setCell ⟨g, k, none⟩ (.int .i64 y)) := by
  unfold Own at ho
  rw [hl] at ho
  refine ⟨?_, World.ownsRow.frozenAt ho k, ?_, (Below.refl _ _).setCell (by exact (World.ownsRow.lt ho g rfl).1) _⟩
  · rw [World.ownsRow.cellAt ho k (by omega)]
    have : k < zs.length := by omega
    simp [List.getD, List.getElem?_eq_getElem this]
  · have h := (World.ownsRow.stored ho k (.int .i64 y)).1
    rw [map_set] at h
    unfold Own
    rw [List.length_set, hl]
    exact h
section
variable {P : Program} {E T : Nat} (w : World) {ops : Array Oper} {rest : List Oper} {o : Oper} {a : Act} {Q : Exit → Act → World → Prop}

/-- 'append(out, x)' of one number onto a slice of the call's own. -/
theorem append_one (hgd : o.guard = none) (s x : Operand)
    (ho : o.op = .call { callee := .builtin .append, args := #[s, x], argTypes := #[T, T] })
    (base : Nat) (ht : P.underlying T = some (.slice E)) (hi : Info64 P E)
    (v : Value) (xs : List Int) (hs : a.eval s = v) (hown : Own E w base v xs) (b : Nat) (y : Int) (c : Nat) (hx : a.eval x = .slice (some ⟨b, 0, none⟩) 1 c) (hc : w.cell? ⟨b, 0, none⟩ = some (.int .i64 y))
    (hlen : xs.length ≤ 4294967296) (hbase : base ≤ w.heap.size)
    (h : ∀ v' w', Own E w' base v' (xs ++ [y]) → Below base w w' → wpList P ops Q rest (a.put o.dst v') w') : wpList P ops Q (o :: rest) a w := by
  obtain ⟨i0, hi, hz0, hz1, hz2⟩ := info_parts hi
  refine wpList_append_own w hgd s x T ho base E i0 (.int .i64 0) 1 8 ht hi hz0 hz1 hz2 rfl (by decide) v xs.length _ hs hown ⟨b, 0, none⟩ 1 c [.int .i64 y] hx rfl ?_ ?_ (by unfold maxLen; omega) (by omega) hbase ?_
  · intro j u hj
    match j, hj with
    | 0, hj => simp at hj; subst hj; simpa [Addr.add] using hc
  · intro u hu; simp at hu; subst hu; rfl
  · intro v' w' h1 h2 _
    refine h v' w' ?_ ((Below.refl _ _).grown h2 hbase fun k hk => (hown.block k hk).1)
    unfold Own
    simpa using h1

/-- 'append(out, xs...)' of a whole slice, a nil one too. -/
theorem append_list (hgd : o.guard = none) (s x : Operand)
    (ho : o.op = .call { callee := .builtin .append, args := #[s, x], argTypes := #[T, T] })
    (base : Nat) (ht : P.underlying T = some (.slice E)) (hi : Info64 P E)
    (v : Value) (xs : List Int) (hs : a.eval s = v) (hown : Own E w base v xs) (ao : Option Addr) (n c : Nat) (ys : List Int) (hx : a.eval x = .slice ao n c) (hr : Rd w ao n ys)
    (hlen : xs.length + n ≤ 4294967296) (hbase : base ≤ w.heap.size)
    (h : ∀ v' w', Own E w' base v' (xs ++ ys) → Below base w w' → wpList P ops Q rest (a.put o.dst v') w') : wpList P ops Q (o :: rest) a w := by
  obtain ⟨i0, hi, hz0, hz1, hz2⟩ := info_parts hi
  rcases ao with _ | ad
  · have hn : n = 0 := by
      rcases Nat.eq_zero_or_pos n with h0 | h0
      · exact h0
      · obtain ⟨_, _, e, _⟩ := hr.here h0; cases e
    subst hn
    have hys : ys = [] := List.length_eq_zero_iff.1 hr.len
    subst hys
    refine wpList_plain hgd fun K hK => ?_
    have hrun : (Builtin.append_ #[T, T] o.type #[v, .slice none 0 c]).run P w = .ok v w := by
      have hown0 := hown
      rcases hown0.2 with ⟨rfl, _⟩ | ⟨g, cap, cur, rfl, _, _, hnc, _⟩
      · simp [Builtin.append_, run_underlying ht, sizeOf, typeInfo, hi, Builtin.lenOf, Builtin.firstCells]
      · simp [Builtin.append_, run_underlying ht, sizeOf, typeInfo, hi, Builtin.lenOf, Builtin.firstCells, hnc, storeCells]
    unfold Oper.wp
    simp [execOp, ho, resolve, invoke, builtin, hs, hx, hrun, Result.andThen]
    exact hK _ _ (h v w (by simpa using hown) (Below.refl _ _))
  · have hcells : ∀ j u, (ys.map (Value.int .i64))[j]? = some u → w.cell? (ad.add j) = some u := by
      intro j u hu
      rw [List.getElem?_map, Option.map_eq_some_iff] at hu
      obtain ⟨y, hy, rfl⟩ := hu
      have hj : j < n := by have := (List.getElem?_eq_some_iff.1 hy).1; have := hr.len; omega
      obtain ⟨b, off, e, hc⟩ := hr.here (by omega)
      cases e
      rw [Addr.add_lit, hc j hj]
      simp [List.getD, hy]
    refine wpList_append_own w hgd s x T ho base E i0 (.int .i64 0) 1 8 ht hi hz0 hz1 hz2 rfl (by decide) v xs.length _ hs hown ad n c (ys.map (Value.int .i64)) hx (by rw [List.length_map, hr.len, Nat.mul_one]) hcells (ints_oneCell _ _) (by unfold maxLen; omega) (by omega) hbase ?_
    intro v' w' h1 h2 _
    refine h v' w' ?_ ((Below.refl _ _).grown h2 hbase fun k hk => (hown.block k hk).1)
    unfold Own
    rw [List.length_append, hr.len, List.map_append]
    exact h1

/-- 'make([]int64, n, c)'. -/
theorem make_cap (hg : o.guard = none) (l c : Operand) (hop : o.op = Op.makeSlice T l c) (base : Nat) (ht : P.underlying T = some (.slice E)) (hi : Info64 P E)
    (kl kc : IntKind) (L C : Int) (n m : Nat) (hl : a.eval l = .int kl L) (hc : a.eval c = .int kc C) (hL : L = (n : Int)) (hC : C = (m : Int)) (hnm : n ≤ m) (hm : m ≤ 4294967296) (hb : base ≤ w.heap.size)
    (hK : ∀ w', Own E w' base (.slice (some ⟨w.heap.size, 0, none⟩) n m) (List.replicate n 0) → Below base w w' → wpList P ops Q rest (a.put o.dst (.slice (some ⟨w.heap.size, 0, none⟩) n m)) w') :
    wpList P ops Q (o :: rest) a w := by
  obtain ⟨i0, hi, hz0, hz1, hz2⟩ := info_parts hi
  refine wpList_plain hg fun K hK' => ?_
  subst hL
  subst hC
  have hrun := run_make (P := P) w T E i0 (.int .i64 0) ht hi hz0 kl kc (n : Int) (m : Int) (by omega) (by omega) (by rw [hz2]; omega) (by omega)
  simp only [Int.toNat_natCast] at hrun
  unfold Oper.wp
  simp [execOp, hop, hl, hc, hrun, Result.andThen]
  refine hK' _ _ (hK _ ?_ ((Below.refl _ _).alloc hb _))
  refine ⟨by simp, .inr ⟨w.heap.size, m, _, ?_, hb, heap_alloc_new w _, by simpa using hnm, by unfold maxLen; omega, by rw [size_madeCells, hz1], ?_⟩⟩
  · simp
  · rw [hz1, show (Value.int .i64 0).cells = #[Value.int .i64 0] from rfl, toList_madeCells_one, List.length_replicate, Nat.mul_one, Nat.mul_one, List.take_replicate, Nat.min_eq_left hnm, List.map_replicate]

/-- 'copy(out, src)' of a whole slice over one of the call's own that is as long. -/
theorem copy_whole (hgd : o.guard = none) (d s : Operand) (ho : o.op = .call { callee := .builtin .copy, args := #[d, s], argTypes := #[T, T] })
    (base : Nat) (ht : P.underlying T = some (.slice E)) (hi : Info64 P E) (g n cap : Nat) (zs : List Int) (hd : a.eval d = .slice (some ⟨g, 0, none⟩) n cap) (hown : Own E w base (.slice (some ⟨g, 0, none⟩) n cap) zs) (hz : zs.length = n)
    (ao : Option Addr) (c : Nat) (xs : List Int) (hs : a.eval s = .slice ao n c) (hr : Rd w ao n xs)
    (h : ∀ w', Own E w' base (.slice (some ⟨g, 0, none⟩) n cap) xs → Below base w w' → wpList P ops Q rest (a.put o.dst (goInt n)) w') : wpList P ops Q (o :: rest) a w := by
  obtain ⟨i0, hi, hz0, hz1, hz2⟩ := info_parts hi
  obtain ⟨h1, h2⟩ := hown
  rcases h2 with ⟨h2, _⟩ | ⟨g', cap', cur, h2, hbg, hh, hn, hcap, hsz, htake⟩
  · cases h2
  simp only [Value.slice.injEq, Option.some.injEq, Addr.mk.injEq, and_true] at h2
  obtain ⟨rfl, -, rfl⟩ := h2
  have hxl := hr.len
  refine wpList_copy_splice hgd d s T T ho E ht (by rw [hi]; simp [hz1]) _ _ n cap n c hd hs g 0 cur.toList E (by simpa using hh) (xs.map (Value.int .i64)) (by rw [List.length_map, hxl]; simp) ?_ ?_ (ints_oneCell _ _) base w (Below.refl _ _) hbg ?_
  · intro hpos
    rw [List.length_map, hxl] at hpos
    obtain ⟨b, off, rfl, hc⟩ := hr.here hpos
    refine ⟨rfl, _, rfl, fun j v hv => ?_⟩
    rw [List.getElem?_map, Option.map_eq_some_iff] at hv
    obtain ⟨y, hy, rfl⟩ := hv
    have hj : j < n := by have := (List.getElem?_eq_some_iff.1 hy).1; omega
    rw [Addr.add_lit, hc j hj]
    simp [List.getD, hy]
  · rw [List.length_map, hxl, Array.length_toList, hsz]; omega
  · intro w' hh' hb
    have hh' := hh'.out
    rw [List.length_map, hxl]
    refine h w' ⟨by simp, .inr ⟨g, cap, _, by rw [hxl], hbg, hh', by omega, hcap, ?_, ?_⟩⟩ hb
    · rw [List.size_toArray, length_splice _ _ _ (by rw [List.length_map, hxl, Array.length_toList, hsz]; omega), Array.length_toList, hsz]
    · simp [splice]
end
end Go.Proofs.Ytadmpfmpmpdbeaa
