/-
  Several slices of a call's own, of whatever elements; append told exactly. No program is named here.
-/
import Derived.Test.YtpedlofckbplmaaNw
namespace Go.Proofs.Ytpedlofckbplmaa
open Go.RowKit

theorem grown_of_b {w w' : World} (h : Below w.heap.size w w') (g : Option Nat) : w.grownBy w' g := ⟨h.os, h.tape, h.output, h.size, fun k hk _ => h.block k hk⟩
theorem grown_set (w : World) (g j : Nat) (v : Value) : w.grownBy (w.setCell ⟨g, j, none⟩ v) (some g) :=
  ⟨rfl, rfl, rfl, by simp [World.setCell], fun k _ hne => heap_setCell_other _ _ _ _ (fun e => hne (by rw [e]))⟩
theorem grown_low {w W W' : World} {g : Option Nat} (h : w.grownBy W g) (hb : Below w.heap.size W W') : w.grownBy W' g :=
  ⟨hb.os.trans h.os, hb.tape.trans h.tape, hb.output.trans h.output, by have := h.size; have := hb.size; omega, fun k hk hne => (hb.block k hk).trans (h.block k hk hne)⟩
section
variable {w w' : World} {E T base b : Nat} {v : Value} {xs : List Int} {t : List Nd} {x : Nd}
theorem ownsRow_ne {size n : Nat} {cs : List Value} (h : w.ownsRow base E size v n cs) {cur : Array Value} {fz : Nat × Nat} (hb : w.heap[b]? = some (.cells cur T fz)) (hne : T ≠ E) : some b ≠ v.ownBlock := by
  intro e
  rcases h.2 with ⟨rfl, -⟩ | ⟨g, cap, c, rfl, -, hg, -⟩
  · simp [Value.ownBlock] at e
  · simp only [Value.ownBlock, Option.some.injEq] at e
    subst e
    rw [hb] at hg
    cases hg
    exact hne rfl
theorem Own.ne_nd (h : Own E w base v xs) (hb : NdAt T w b x) (hne : T ≠ E) : some b ≠ v.ownBlock := ownsRow_ne h hb hne
/-- A slice literal of five numbers. -/
theorem rd_five (T : Nat) (x0 x1 x2 x3 x4 : Int) (w : World) : Rd (w.alloc (.cells #[.int .i64 x0, .int .i64 x1, .int .i64 x2, .int .i64 x3, .int .i64 x4] T)) (some ⟨w.heap.size, 0, none⟩) 5 [x0, x1, x2, x3, x4] := by
  refine ⟨rfl, fun _ => ⟨w.heap.size, 0, rfl, fun i hi => ?_⟩⟩
  rw [World.cell?_alloc_at _ _ _ _ (by simp)]
  match i, hi with
  | 0, _ => rfl
  | 1, _ => rfl
  | 2, _ => rfl
  | 3, _ => rfl
  | 4, _ => rfl
theorem rd_one (T : Nat) (x0 : Int) (w : World) : Rd (w.alloc (.cells #[.int .i64 x0] T)) (some ⟨w.heap.size, 0, none⟩) 1 [x0] := by
  refine ⟨rfl, fun _ => ⟨w.heap.size, 0, rfl, fun i hi => ?_⟩⟩
  rw [World.cell?_alloc_at _ _ _ _ (by simp)]
  match i, hi with
  | 0, _ => rfl
theorem rd_two (T : Nat) (x0 x1 : Int) (w : World) : Rd (w.alloc (.cells #[.int .i64 x0, .int .i64 x1] T)) (some ⟨w.heap.size, 0, none⟩) 2 [x0, x1] := by
  refine ⟨rfl, fun _ => ⟨w.heap.size, 0, rfl, fun i hi => ?_⟩⟩
  rw [World.cell?_alloc_at _ _ _ _ (by simp)]
  match i, hi with
  | 0, _ => rfl
  | 1, _ => rfl
theorem Own.one {E base : Nat} {w : World} (y : Int) (hE : base ≤ w.heap.size) : Own E (w.alloc (.cells #[.int .i64 y] E)) base (.slice (some ⟨w.heap.size, 0, none⟩) 1 1) [y] :=
  ⟨by simp, .inr ⟨w.heap.size, 1, #[.int .i64 y], by simp, hE, heap_alloc_new w _, by simp, by unfold maxLen; omega, by simp, by simp⟩⟩
end
section
variable {P : Program} {E T : Nat} (w : World) {ops : Array Oper} {rest : List Oper} {o : Oper} {a : Act} {Q : Exit → Act → World → Prop} {K : Act → World → Prop}
/-- 'append(out, xs...)' of at least one number: the operation by itself, and in a list of operations. -/
theorem app_op (s x : Operand) (ho : o.op = .call { callee := .builtin .append, args := #[s, x], argTypes := #[T, T] })
    (base : Nat) (ht : P.underlying T = some (.slice E)) (hi : Info64 P E)
    (v : Value) (xs : List Int) (hs : a.eval s = v) (hown : Own E w base v xs) (ad : Addr) (n c : Nat) (ys : List Int) (hx : a.eval x = .slice (some ad) n c) (hr : Rd w (some ad) n ys)
    (hlen : xs.length + n ≤ 4294967296) (hbase : base ≤ w.heap.size)
    (h : ∀ v' w', Own E w' base v' (xs ++ ys) → w.grownBy w' v.ownBlock → K (a.put o.dst v') w') : o.wp P a w K Q := by
  obtain ⟨i0, hi, hz0, hz1, hz2⟩ := info_parts hi
  have hcells : ∀ j u, (ys.map (Value.int .i64))[j]? = some u → w.cell? (ad.add j) = some u := by
    intro j u hu
    rw [List.getElem?_map, Option.map_eq_some_iff] at hu
    obtain ⟨y, hy, rfl⟩ := hu
    have hj : j < n := by have := (List.getElem?_eq_some_iff.1 hy).1; have := hr.len; omega
    obtain ⟨b, off, e, hc⟩ := hr.here (by omega)
    cases e
    rw [Addr.add_lit, hc j hj]
    simp [List.getD, hy]
  refine wp_append_own w s x T ho base E i0 (.int .i64 0) 1 8 ht hi hz0 hz1 hz2 rfl (by decide) v xs.length _ hs hown ad n c (ys.map (Value.int .i64)) hx (by rw [List.length_map, hr.len, Nat.mul_one]) hcells (ints_oneCell _ _) (by unfold maxLen; omega) (by omega) hbase ?_
  intro v' w' h1 h2 _
  refine h v' w' ?_ h2
  unfold Own
  rw [List.length_append, hr.len, List.map_append]
  exact h1
theorem app_list (hgd : o.guard = none) (s x : Operand) (ho : o.op = .call { callee := .builtin .append, args := #[s, x], argTypes := #[T, T] })
    (base : Nat) (ht : P.underlying T = some (.slice E)) (hi : Info64 P E)
    (v : Value) (xs : List Int) (hs : a.eval s = v) (hown : Own E w base v xs) (ad : Addr) (n c : Nat) (ys : List Int) (hx : a.eval x = .slice (some ad) n c) (hr : Rd w (some ad) n ys)
    (hlen : xs.length + n ≤ 4294967296) (hbase : base ≤ w.heap.size)
    (h : ∀ v' w', Own E w' base v' (xs ++ ys) → w.grownBy w' v.ownBlock → wpList P ops Q rest (a.put o.dst v') w') : wpList P ops Q (o :: rest) a w :=
  wpList_plain hgd fun _ hK => app_op w s x ho base ht hi v xs hs hown ad n c ys hx hr hlen hbase fun v' w' h1 h2 => hK _ _ (h v' w' h1 h2)
end
/-! ### slices of the call's own, of numbers and of entries, kept apart -/
structure It where
  v : Value
  E : Nat
  sz : Nat
  n : Nat
  cells : List Value
def ints (E : Nat) (v : Value) (xs : List Int) : It := ⟨v, E, 1, xs.length, xs.map (Value.int .i64)⟩
def nds (E : Nat) (v : Value) (t : List Nd) : It := ⟨v, E, 4, t.length, t.flatMap ndCells⟩
structure Hold (w0 w : World) (L : List It) : Prop where
  below : Below w0.heap.size w0 w
  own : ∀ p ∈ L, w.ownsRow w0.heap.size p.E p.sz p.v p.n p.cells
  apart : L.Pairwise fun p q => ∀ k, p.v.ownBlock = some k → q.v.ownBlock ≠ some k
section
variable {w0 w w' : World} {L : List It} {E : Nat} {v : Value} {xs : List Int} {t : List Nd} {p : It}
theorem ownsRow_below {base e size n : Nat} {cs : List Value} (h : w.ownsRow base e size v n cs) (hb : Below w.heap.size w w') : w'.ownsRow base e size v n cs := by
  obtain ⟨h1, h2⟩ := h
  refine ⟨h1, ?_⟩
  rcases h2 with h2 | ⟨g, cap, cur, e, hg, hh, r⟩
  · exact .inl h2
  · exact .inr ⟨g, cap, cur, e, hg, by rw [hb.block g (Array.getElem?_eq_some_iff.1 hh).1]; exact hh, r⟩
theorem ownsRow_more {base base' e size n : Nat} {cs : List Value} (h : w.ownsRow base e size v n cs) (hb : base' ≤ base) : w.ownsRow base' e size v n cs := by
  obtain ⟨h1, h2⟩ := h
  refine ⟨h1, ?_⟩
  rcases h2 with h2 | ⟨g, cap, cur, e, hg, r⟩
  · exact .inl h2
  · exact .inr ⟨g, cap, cur, e, Nat.le_trans hb hg, r⟩
theorem Hold.start : Hold w w [] := ⟨Below.refl _ _, (fun _ h => by cases h), List.Pairwise.nil⟩
theorem Hold.still (h : Hold w0 w L) (b : Below w.heap.size w w') : Hold w0 w' L := ⟨below_two h.below b, fun p hp => ownsRow_below (h.own p hp) b, h.apart⟩
theorem Hold.make (h : Hold w0 w L) (o : w'.ownsRow w.heap.size p.E p.sz p.v p.n p.cells) (b : Below w.heap.size w w') : Hold w0 w' (p :: L) := by
  refine ⟨below_two h.below b, fun q hq => ?_, List.Pairwise.cons (fun q hq k hk e => ?_) h.apart⟩
  · rcases List.mem_cons.1 hq with rfl | hq
    · exact ownsRow_more o h.below.size
    · exact ownsRow_below (h.own q hq) b
  · have h1 := (World.ownsRow.lt o k hk).1
    have h2 := (World.ownsRow.lt (h.own q hq) k e).2
    omega
theorem Hold.makeI (h : Hold w0 w L) (o : Own E w' w.heap.size v xs) (b : Below w.heap.size w w') : Hold w0 w' (ints E v xs :: L) := h.make (p := ints E v xs) o b
theorem Hold.makeN (h : Hold w0 w L) (o : OwnN E w' w.heap.size v t) (b : Below w.heap.size w w') : Hold w0 w' (nds E v t :: L) := h.make (p := nds E v t) o b
theorem Hold.getI (h : Hold w0 w L) (i : Nat) (hi : L[i]? = some (ints E v xs)) : Own E w w0.heap.size v xs := h.own (ints E v xs) (List.mem_of_getElem? hi)
theorem Hold.getN (h : Hold w0 w L) (i : Nat) (hi : L[i]? = some (nds E v t)) : OwnN E w w0.heap.size v t := h.own (nds E v t) (List.mem_of_getElem? hi)
theorem Hold.rdI {ao : Option Addr} {n cap : Nat} (h : Hold w0 w L) (i : Nat) (hi : L[i]? = some (ints E (.slice ao n cap) xs)) : Rd w ao xs.length xs := by
  obtain ⟨ao', cap', e, o, r⟩ := (h.getI i hi).get
  cases e
  exact r
theorem Hold.rdN {ao : Option Addr} {n cap : Nat} (h : Hold w0 w L) (i : Nat) (hi : L[i]? = some (nds E (.slice ao n cap) t)) : RdN w ao t.length t := by
  obtain ⟨ao', cap', e, o, r⟩ := (h.getN i hi).get
  cases e
  exact r
theorem Hold.mark (L1 : List It) {L2 : List It} {q : It} (h : Hold w0 w (L1 ++ p :: L2)) (hv : q.v = p.v) (o : w'.ownsRow w0.heap.size q.E q.sz q.v q.n q.cells) (g : w.grownBy w' p.v.ownBlock) : Hold w0 w' (L1 ++ q :: L2) := by
  have ho := h.own
  have ha := h.apart
  have hb : ∀ k, p.v.ownBlock = some k → w0.heap.size ≤ k := fun k hk => (World.ownsRow.lt (ho p (by simp)) k hk).1
  refine ⟨h.below.grown g h.below.size hb, fun r hr => ?_, ?_⟩
  · rw [List.mem_append, List.mem_cons] at hr
    rw [List.pairwise_append, List.pairwise_cons] at ha
    rcases hr with hr | rfl | hr
    · refine World.ownsRow.kept (ho r (by simp [hr])) g ?_
      cases hk : r.v.ownBlock with
      | none => exact .inl rfl
      | some k => exact .inr (fun e => ha.2.2 r hr p (by simp) k hk e.symm)
    · exact o
    · refine World.ownsRow.kept (ho r (by simp [hr])) g ?_
      cases hk : r.v.ownBlock with
      | none => exact .inl rfl
      | some k => exact .inr (fun e => ha.2.1.1 r hr k e.symm hk)
  · rw [List.pairwise_append, List.pairwise_cons] at ha ⊢
    refine ⟨ha.1, ⟨fun r hr k hk => ha.2.1.1 r hr k (by rw [← hv]; exact hk), ha.2.1.2⟩, fun r hr s hs k hk => ?_⟩
    rcases List.mem_cons.1 hs with rfl | hs
    · rw [hv]; exact ha.2.2 r hr p (by simp) k hk
    · exact ha.2.2 r hr s (by simp [hs]) k hk
end
end Go.Proofs.Ytpedlofckbplmaa
