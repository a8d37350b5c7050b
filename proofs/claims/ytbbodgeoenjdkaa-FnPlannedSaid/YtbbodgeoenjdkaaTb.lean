/-
  Slices of slices of numbers in memory: what reads as one; what a call owns, each list in a block of its own; made, written, appended to. No program is named here.
-/
import Derived.Test.YtbbodgeoenjdkaaHl
namespace Go.Proofs.Ytbbodgeoenjdkaa
open Go.RowKit

/-- A list as it lies in memory. -/
structure Rw where
  xs : List Int
  ao : Option Addr
  cap : Nat
def Rw.v (c : Rw) : Value := .slice c.ao c.xs.length c.cap
def Rw.zero : Rw := ⟨[], none, 0⟩
def rwOf (rs : List Rw) (i : Nat) : Rw := rs.getD i Rw.zero
def rwx (rs : List Rw) : List (List Int) := rs.map Rw.xs
/-- A list reads in w. -/
structure RwRd (w : World) (c : Rw) : Prop where
  rd : Rd w c.ao c.xs.length c.xs
  le : c.xs.length ≤ c.cap
  cap : c.cap ≤ 9223372036854775807
/-- The slice value at 'ao' of length n reads in w as the lists rs. -/
structure RdT (w : World) (ao : Option Addr) (n : Nat) (rs : List Rw) : Prop where
  len : rs.length = n
  here : 0 < n → ∃ b off, ao = some ⟨b, off, none⟩ ∧ ∀ i, i < n → w.cell? ⟨b, off + i, none⟩ = some (rwOf rs i).v
  next : ∀ c ∈ rs, RwRd w c
/-- A slice of slices of the call's own. -/
structure OwnT (E EI : Nat) (w : World) (base : Nat) (v : Value) (rs : List Rw) : Prop where
  row : w.ownsRow base E 1 v rs.length (rs.map Rw.v)
  nx : ∀ c ∈ rs, Own EI w base c.v c.xs
  apart : rs.Pairwise fun p q => ∀ k, p.v.ownBlock = some k → q.v.ownBlock ≠ some k

theorem rwx_len (rs : List Rw) : (rwx rs).length = rs.length := List.length_map ..
theorem rwOf_get {rs : List Rw} {i : Nat} (h : i < rs.length) : rwOf rs i = rs[i] := by simp [rwOf, List.getD, List.getElem?_eq_getElem h]
theorem rwOf_mem {rs : List Rw} {i : Nat} (h : i < rs.length) : rwOf rs i ∈ rs := by rw [rwOf_get h]; exact List.getElem_mem h
theorem rwOf_x {rs : List Rw} {i : Nat} (h : i < rs.length) : (rwOf rs i).xs = (rwx rs).getD i [] := by
  rw [rwOf_get h]; simp [rwx, List.getD, h]
theorem rwOf_set {rs : List Rw} {k : Nat} (h : k < rs.length) (y : Rw) : rwOf (rs.set k y) k = y := by simp [rwOf, List.getD, h]
section
variable {w w' : World} {E EI T base n b off : Nat} {ao : Option Addr} {v : Value} {rs : List Rw} {c : Rw}
/-- Two slices of different elements do not share a block. -/
theorem rowsT_ne {base' s s' m : Nat} {v2 : Value} {xs ys : List Value} (h1 : w.ownsRow base E s v n xs) (h2 : w.ownsRow base' EI s' v2 m ys) (hne : E ≠ EI) : ∀ k, v.ownBlock = some k → v2.ownBlock ≠ some k := by
  intro k e1 e2
  rcases h1.2 with ⟨rfl, -⟩ | ⟨g, cap, cur, rfl, -, hg, -⟩
  · simp [Value.ownBlock] at e1
  · simp only [Value.ownBlock, Option.some.injEq] at e1
    subst e1
    exact ownsRow_ne h2 hg hne e2.symm
theorem RwRd.below (h : RwRd w c) (hb : Below w.heap.size w w') : RwRd w' c := ⟨h.rd.below hb, h.le, h.cap⟩
theorem RdT.nil_ : RdT w ao 0 [] := ⟨rfl, fun h => absurd h (by omega), fun _ h => by cases h⟩
theorem RdT.at (h : RdT w ao n rs) {i : Nat} (hi : i < n) : ∃ b off, ao = some ⟨b, off, none⟩ ∧ b < w.heap.size ∧ w.cell? ⟨b, off + i, none⟩ = some (.slice (rwOf rs i).ao (rwOf rs i).xs.length (rwOf rs i).cap) ∧ RwRd w (rwOf rs i) := by
  obtain ⟨b, off, e, hc⟩ := h.here (by omega)
  exact ⟨b, off, e, World.block_lt_of_cell? w _ (hc i hi), hc i hi, h.next _ (rwOf_mem (by rw [h.len]; exact hi))⟩
theorem RdT.below (h : RdT w ao n rs) (hb : Below w.heap.size w w') : RdT w' ao n rs :=
  ⟨h.len, fun hn => by
    obtain ⟨b, off, e, hc⟩ := h.here hn
    exact ⟨b, off, e, fun i hi => (hb.cell (World.block_lt_of_cell? w _ (hc i hi))).trans (hc i hi)⟩, fun c hc => (h.next c hc).below hb⟩
theorem OwnT.below (h : OwnT E EI w base v rs) (hb : Below w.heap.size w w') : OwnT E EI w' base v rs := ⟨ownsRow_below h.row hb, fun c hc => (h.nx c hc).below hb, h.apart⟩
theorem OwnT.more (h : OwnT E EI w base v rs) {base' : Nat} (hb : base' ≤ base) : OwnT E EI w base' v rs := ⟨ownsRow_more h.row hb, fun c hc => (h.nx c hc).more hb, h.apart⟩
theorem Own.rwRd (h : Own EI w base c.v c.xs) : RwRd w c := by
  obtain ⟨ao', cap', e, r, h1, h2, -⟩ := h.form
  unfold Rw.v at e
  unfold maxLen at h2
  cases e
  exact ⟨r, h1, by omega⟩
theorem OwnT.form (h : OwnT E EI w base v rs) : ∃ ao cap, v = .slice ao rs.length cap ∧ RdT w ao rs.length rs ∧ rs.length ≤ cap ∧ cap ≤ maxLen ∧ (v = .slice none 0 0 ∨ ∃ g, ao = some ⟨g, 0, none⟩ ∧ base ≤ g ∧ g < w.heap.size) := by
  have hnx : ∀ c ∈ rs, RwRd w c := fun c hc => (h.nx c hc).rwRd
  have h0 := h.row
  rcases h.row.2 with ⟨rfl, h2⟩ | ⟨g, cap, cur, rfl, hg, hh, hn, hcap, hsz, htake⟩
  · have : rs = [] := List.length_eq_zero_iff.1 h2
    subst this
    exact ⟨none, 0, rfl, RdT.nil_, Nat.le_refl _, by unfold maxLen; omega, .inl rfl⟩
  · have hc : ∀ i, i < rs.length → w.cell? ⟨g, 0 + i, none⟩ = some (rwOf rs i).v := fun i hi => by
      rw [Nat.zero_add, World.ownsRow.cellAt h0 i (by omega), List.getElem?_map, List.getElem?_eq_getElem hi, rwOf_get hi]; rfl
    exact ⟨_, cap, rfl, ⟨rfl, fun _ => ⟨g, 0, rfl, hc⟩, hnx⟩, hn, hcap, .inr ⟨g, rfl, hg, (Array.getElem?_eq_some_iff.1 hh).1⟩⟩
theorem OwnT.cap {cap : Nat} (h : OwnT E EI w base (.slice ao n cap) rs) : n ≤ cap ∧ cap ≤ 9223372036854775807 := by
  obtain ⟨ao', cap', e, -, h1, h2, -⟩ := h.form
  cases e
  unfold maxLen at h2
  exact ⟨h1, by omega⟩
theorem OwnT.of_alloc_nil (hE : base ≤ w.heap.size) : OwnT E EI (w.alloc (.cells #[] E)) base (.slice (some ⟨w.heap.size, 0, none⟩) 0 0) [] :=
  ⟨World.ownsRow_made w #[] 0 hE (by unfold maxLen; omega) rfl, (fun _ h => by cases h), List.Pairwise.nil⟩
theorem OwnT.nil_ : OwnT E EI w base (.slice none 0 0) [] := ⟨World.ownsRow_nil _ _ _ _, (fun _ h => by cases h), List.Pairwise.nil⟩
theorem OwnT.get (h : OwnT E EI w base v rs) : ∃ ao cap, v = .slice ao rs.length cap ∧ OwnT E EI w base (.slice ao rs.length cap) rs ∧ RdT w ao rs.length rs := by
  obtain ⟨ao, cap, rfl, r, -, -, -⟩ := h.form
  exact ⟨ao, cap, rfl, h, r⟩
theorem OwnT.block (h : OwnT E EI w base v rs) : ∀ k, v.ownBlock = some k → base ≤ k ∧ k < w.heap.size := World.ownsRow.lt h.row
/-- A list in new memory is apart from all lists of a table. -/
theorem OwnT.fresh {w1 : World} (h : OwnT E EI w base v rs) {u : Value} {xs : List Int} (o : Own EI w1 w.heap.size u xs) : ∀ d ∈ rs, ∀ k, d.v.ownBlock = some k → u.ownBlock ≠ some k := by
  intro d hd k e1 e2
  have h1 := ((h.nx d hd).block k e1).2
  have h2 := (o.block k e2).1
  omega
/-- The table's own block changes: the lists stay. -/
theorem OwnT.turned (hne : E ≠ EI) (h : OwnT E EI w base v rs) {g : Option Nat} (hg : w.grownBy w' g) (hv : g = none ∨ g = v.ownBlock) : ∀ c ∈ rs, Own EI w' base c.v c.xs := by
  intro c hc
  have hne' : EI ≠ E := fun e => hne e.symm
  refine (h.nx c hc).only hg ?_
  rcases hb : c.v.ownBlock with _ | k
  · exact .inl rfl
  · refine .inr (fun e => ?_)
    rcases hv with rfl | rfl
    · cases e
    · exact rowsT_ne (show w.ownsRow base EI 1 c.v _ _ from h.nx c hc) h.row hne' k hb e.symm
/-- One more list, appended. -/
theorem OwnT.push (hne : E ≠ EI) {v' : Value} (h : OwnT E EI w base v rs) (hg : w.grownBy w' v.ownBlock) (hr : w'.ownsRow base E 1 v' (rs ++ [c]).length ((rs ++ [c]).map Rw.v)) (hc : Own EI w base c.v c.xs) (ha : ∀ d ∈ rs, ∀ k, d.v.ownBlock = some k → c.v.ownBlock ≠ some k) : OwnT E EI w' base v' (rs ++ [c]) := by
  refine ⟨hr, fun d hd => ?_, ?_⟩
  · rcases List.mem_append.1 hd with hd | hd
    · exact h.turned hne hg (.inr rfl) d hd
    · rw [List.mem_singleton] at hd
      subst hd
      refine hc.only hg ?_
      rcases hb : d.v.ownBlock with _ | k
      · exact .inl rfl
      · exact .inr (fun e => rowsT_ne (show w.ownsRow base EI 1 d.v _ _ from hc) h.row (fun e => hne e.symm) k hb e.symm)
  · rw [List.pairwise_append]
    refine ⟨h.apart, List.pairwise_singleton _ _, fun p hp q hq k e => ?_⟩
    rw [List.mem_singleton] at hq
    subst hq
    exact ha p hp k e
end
section
variable {E EI : Nat} {w w' : World} {base g n cap : Nat} {rs : List Rw}
theorem pairwise_set {α : Type} {R : α → α → Prop} {l : List α} (hp : l.Pairwise R) (k : Nat) (x : α) (h1 : ∀ d ∈ l, R d x) (h2 : ∀ d ∈ l, R x d) : (l.set k x).Pairwise R := by
  rw [List.pairwise_iff_getElem] at hp ⊢
  intro i j hi hj hij
  rw [List.length_set] at hi hj
  rw [List.getElem_set, List.getElem_set]
  split
  · rw [if_neg (by omega)]; exact h2 _ (List.getElem_mem hj)
  · split
    · exact h1 _ (List.getElem_mem hi)
    · exact hp i j hi hj hij
theorem OwnT.at_ {v : Value} (ho : OwnT E EI w base v rs) {k : Nat} (hk : k < rs.length) : Own EI w base (rwOf rs k).v (rwOf rs k).xs := ho.nx _ (rwOf_mem hk)
/-- A list in new memory stored into a table of the call's own. -/
theorem OwnT.store (hne : E ≠ EI) (ho : OwnT E EI w base (.slice (some ⟨g, 0, none⟩) n cap) rs) (hl : rs.length = n) {k : Nat} (hk : k < n) (x : Rw) (hx : Own EI w base x.v x.xs) (ha : ∀ d ∈ rs, ∀ k, d.v.ownBlock = some k → x.v.ownBlock ≠ some k) :
    w.cell? ⟨g, k, none⟩ = some (rwOf rs k).v ∧ w.frozen? ⟨g, k, none⟩ = false ∧
      OwnT E EI (w.setCell ⟨g, k, none⟩ x.v) base (.slice (some ⟨g, 0, none⟩) n cap) (rs.set k x) ∧ Below base w (w.setCell ⟨g, k, none⟩ x.v) := by
  have hr := ho.row
  rw [hl] at hr
  have hg := grown_set w g k x.v
  have h := (World.ownsRow.stored hr k x.v).1
  rw [← List.map_set] at h
  refine ⟨by rw [World.ownsRow.cellAt hr k (by omega), List.getElem?_map, List.getElem?_eq_getElem (by omega), rwOf_get (by omega)]; rfl, World.ownsRow.frozenAt hr _, ⟨by rw [List.length_set, hl]; exact h, fun d hd => ?_, pairwise_set ho.apart k x (fun d hd j e => ha d hd j e) (fun d hd j e e2 => ha d hd j e2 e)⟩, (Below.refl _ _).setCell (by exact (ho.block g rfl).1) _⟩
  rcases List.mem_or_eq_of_mem_set hd with hd | rfl
  · exact ho.turned hne hg (.inr rfl) d hd
  · refine hx.only hg ?_
    rcases hb : d.v.ownBlock with _ | j
    · exact .inl rfl
    · exact .inr (fun e => rowsT_ne (show w.ownsRow base EI 1 d.v _ _ from hx) ho.row (fun e => hne e.symm) j hb (by rw [e]; rfl))
/-- A list of a table of the call's own changes in place. -/
theorem OwnT.inPlace (hne : E ≠ EI) {v : Value} (ho : OwnT E EI w base v rs) {k : Nat} (hk : k < rs.length) {ys : List Int} (hl : ys.length = (rwOf rs k).xs.length) (hy : Own EI w' base (rwOf rs k).v ys) (hg : w.grownBy w' (rwOf rs k).v.ownBlock) :
    OwnT E EI w' base v (rs.set k ⟨ys, (rwOf rs k).ao, (rwOf rs k).cap⟩) := by
  have hmem := rwOf_mem hk
  have hv : (⟨ys, (rwOf rs k).ao, (rwOf rs k).cap⟩ : Rw).v = (rwOf rs k).v := by unfold Rw.v; rw [hl]
  have hmap : (rs.set k ⟨ys, (rwOf rs k).ao, (rwOf rs k).cap⟩).map Rw.v = rs.map Rw.v := by
    rw [List.map_set, hv]
    apply List.ext_getElem (by simp)
    intro i h1 h2
    rw [List.getElem_set]
    split
    · rename_i e; subst e; rw [rwOf_get hk]; simp
    · rfl
  refine ⟨?_, fun d hd => ?_, ?_⟩
  · rw [hmap, List.length_set]
    refine World.ownsRow.kept ho.row hg ?_
    rcases hb : v.ownBlock with _ | j
    · exact .inl rfl
    · exact .inr (fun e => rowsT_ne ho.row (show w.ownsRow base EI 1 _ _ _ from ho.nx _ hmem) hne j hb (by rw [e]))
  · rw [List.mem_iff_getElem] at hd
    obtain ⟨i, hi, rfl⟩ := hd
    rw [List.length_set] at hi
    rw [List.getElem_set]
    split
    · show Own EI w' base (Rw.v _) ys
      rw [hv]; exact hy
    · rename_i hik
      refine (ho.nx _ (List.getElem_mem hi)).only hg ?_
      rcases hb : (rs[i]).v.ownBlock with _ | j
      · exact .inl rfl
      · refine .inr (fun e => ?_)
        have hp := List.pairwise_iff_getElem.1 ho.apart
        rw [rwOf_get hk] at e
        by_cases h : i < k
        · exact hp i k hi hk h j hb (by rw [← e])
        · exact hp k i hk hi (by omega) j (by rw [← e]) hb
  · have h1 := ho.apart
    rw [← List.pairwise_map (f := Rw.v) (R := fun p q => ∀ k, p.ownBlock = some k → q.ownBlock ≠ some k)] at h1 ⊢
    rw [hmap]; exact h1
end
/-- What a call leaves that makes one table; and a number beside it. -/
def MakesT (E EI : Nat) (w : World) (t : List (List Int)) (e : Ending) (w' : World) : Prop :=
  ∃ v rs, rwx rs = t ∧ e = .returned v ∧ OwnT E EI w' w.heap.size v rs ∧ Below w.heap.size w w'
def MakesT2 (E EI : Nat) (w : World) (t : List (List Int)) (c : Int) (e : Ending) (w' : World) : Prop :=
  ∃ v rs, rwx rs = t ∧ e = .returned (.tuple #[v, .int .i64 c]) ∧ OwnT E EI w' w.heap.size v rs ∧ Below w.heap.size w w'
theorem MakesT2.get {w w' : World} {E EI : Nat} {t : List (List Int)} {e : Ending} {c : Int} (h : MakesT2 E EI w t c e w') : ∃ ao cap rs, rwx rs = t ∧ e = .returned (.tuple #[.slice ao rs.length cap, .int .i64 c]) ∧ OwnT E EI w' w.heap.size (.slice ao rs.length cap) rs ∧ RdT w' ao rs.length rs ∧ Below w.heap.size w w' := by
  obtain ⟨v, rs, h1, rfl, o, b⟩ := h
  obtain ⟨ao, cap, rfl, o, r⟩ := o.get
  exact ⟨ao, cap, rs, h1, rfl, o, r, b⟩
/-! ### made, appended to -/
/-- The row of the program's table for a slice. -/
abbrev InfoTb (P : Program) (E : Nat) : Prop := (P.info? E).map (fun i => (i.zero, i.size, i.bytes)) = some (some (.slice none 0 0), 1, 24)
theorem info_parts_t {P : Program} {E : Nat} (h : InfoTb P E) : ∃ i, P.info? E = some i ∧ i.zero = some (.slice none 0 0) ∧ i.size = 1 ∧ i.bytes = 24 := by
  unfold InfoTb at h
  cases hi : P.info? E with
  | none => rw [hi] at h; cases h
  | some i =>
    rw [hi] at h
    simp only [Option.map_some, Option.some.injEq, Prod.mk.injEq] at h
    exact ⟨i, rfl, h.1, h.2.1, h.2.2⟩
theorem madeT (n : Nat) : (madeCells (Value.slice none 0 0).cells (n * 1)).toList = (List.replicate n Rw.zero).map Rw.v := by
  have e : (Value.slice none 0 0).cells = #[Value.slice none 0 0] := rfl
  rw [e]
  unfold madeCells
  rw [Nat.mul_one, Array.toList_map, Array.toList_range]
  apply List.ext_getElem (by simp)
  intro i h1 h2
  simp [Rw.v, Rw.zero, Nat.mod_one]
section
variable {P : Program} {E EI T : Nat} (w : World) {ops : Array Oper} {rest : List Oper} {o : Oper} {a : Act} {Q : Exit → Act → World → Prop} {K : Act → World → Prop}
/-- 'make([][]int64, n)'. -/
theorem make_tb (hg : o.guard = none) (l c : Operand) (hop : o.op = Op.makeSlice T l c) (base : Nat) (ht : P.underlying T = some (.slice E)) (hi : InfoTb P E)
    (kl kc : IntKind) (L C : Int) (n : Nat) (hl : a.eval l = .int kl L) (hc : a.eval c = .int kc C) (hL : L = (n : Int)) (hC : C = (n : Int)) (hm : n ≤ 4294967296) (hb : base ≤ w.heap.size)
    (hK : ∀ w', OwnT E EI w' base (.slice (some ⟨w.heap.size, 0, none⟩) n n) (List.replicate n Rw.zero) → Below base w w' → wpList P ops Q rest (a.put o.dst (.slice (some ⟨w.heap.size, 0, none⟩) n n)) w') :
    wpList P ops Q (o :: rest) a w := by
  obtain ⟨i0, hi, hz0, hz1, hz2⟩ := info_parts_t hi
  refine wpList_make_full w hg l c T hop base E i0 (.slice none 0 0) 1 ht hi hz0 hz1 kl kc L C n hl hc hL hC (by rw [hz2]; omega) (by unfold maxLen; omega) hb ?_
  intro w' h1 h2
  refine hK w' ⟨?_, fun c hc => ?_, ?_⟩ ((Below.refl _ _).grown h2 hb (fun k h => by cases h))
  · rw [List.length_replicate, ← madeT]
    exact h1
  · rw [List.eq_of_mem_replicate hc]
    exact Own.nil_
  · rw [List.pairwise_iff_getElem]
    intro i j hi hj hij b e
    rw [List.getElem_replicate] at e
    cases e
/-- 'append(out, x)' of one list in memory of its own. -/
theorem appendT (hgd : o.guard = none) (hne : E ≠ EI) (s x : Operand) (ho : o.op = .call { callee := .builtin .append, args := #[s, x], argTypes := #[T, T] })
    (base : Nat) (ht : P.underlying T = some (.slice E)) (hi : InfoTb P E)
    (v : Value) (rs : List Rw) (hs : a.eval s = v) (hown : OwnT E EI w base v rs) (b : Nat) (y : Rw) (c : Nat) (hx : a.eval x = .slice (some ⟨b, 0, none⟩) 1 c) (hc : w.cell? ⟨b, 0, none⟩ = some y.v)
    (hy : Own EI w base y.v y.xs) (ha : ∀ d ∈ rs, ∀ k, d.v.ownBlock = some k → y.v.ownBlock ≠ some k)
    (hlen : rs.length ≤ 1048576) (hbase : base ≤ w.heap.size)
    (h : ∀ v' w', OwnT E EI w' base v' (rs ++ [y]) → Below base w w' → wpList P ops Q rest (a.put o.dst v') w') : wpList P ops Q (o :: rest) a w := by
  refine wpList_plain hgd fun K' hK' => ?_
  obtain ⟨i0, hi, hz0, hz1, hz2⟩ := info_parts_t hi
  refine wp_append_own w s x T ho base E i0 (.slice none 0 0) 1 24 ht hi hz0 hz1 hz2 rfl (by decide) v rs.length (rs.map Rw.v) hs hown.row ⟨b, 0, none⟩ 1 c [y.v] hx rfl ?_ ?_ (by unfold maxLen; omega) (by omega) hbase ?_
  · intro j u hj
    match j, hj with
    | 0, hj => simp at hj; subst hj; simpa [Addr.add] using hc
  · intro u hu; simp at hu; subst hu; rfl
  · intro v' w' h1 h2 _
    refine hK' _ _ (h v' w' (hown.push hne h2 ?_ hy ha) ((Below.refl _ _).grown h2 hbase fun k hk => (hown.block k hk).1))
    rw [List.length_append, List.map_append]
    simpa using h1
end
/-! ### a table among several slices of the call's own -/
def trow (E : Nat) (v : Value) (rs : List Rw) : It := ⟨v, E, 1, rs.length, rs.map Rw.v⟩
def tls (EI : Nat) (rs : List Rw) : List It := rs.map fun c => ints EI c.v c.xs
def tis (E EI : Nat) (v : Value) (rs : List Rw) : List It := trow E v rs :: tls EI rs
section
variable {w0 w w' : World} {L L1 L2 : List It} {E EI : Nat} {v : Value} {rs : List Rw}
theorem Hold.makeLT (h : Hold w0 w L) (L1 : List It) (o : ∀ p ∈ L1, w'.ownsRow w.heap.size p.E p.sz p.v p.n p.cells) (ap : L1.Pairwise fun p q => ∀ k, p.v.ownBlock = some k → q.v.ownBlock ≠ some k) (b : Below w.heap.size w w') : Hold w0 w' (L1 ++ L) := by
  refine ⟨below_two h.below b, fun q hq => ?_, ?_⟩
  · rcases List.mem_append.1 hq with hq | hq
    · exact ownsRow_more (o q hq) h.below.size
    · exact ownsRow_below (h.own q hq) b
  · rw [List.pairwise_append]
    refine ⟨ap, h.apart, fun p hp q hq k hk e => ?_⟩
    have h1 := (World.ownsRow.lt (o p hp) k hk).1
    have h2 := (World.ownsRow.lt (h.own q hq) k e).2
    omega
theorem OwnT.items (hne : E ≠ EI) {base : Nat} (h : OwnT E EI w base v rs) : (∀ p ∈ tis E EI v rs, w.ownsRow base p.E p.sz p.v p.n p.cells) ∧ (tis E EI v rs).Pairwise fun p q => ∀ k, p.v.ownBlock = some k → q.v.ownBlock ≠ some k := by
  refine ⟨fun p hp => ?_, ?_⟩
  · rcases List.mem_cons.1 hp with rfl | hp
    · exact h.row
    · obtain ⟨c, hc, rfl⟩ := List.mem_map.1 hp
      exact h.nx c hc
  · refine List.Pairwise.cons (fun p hp k e1 e2 => ?_) ?_
    · obtain ⟨c, hc, rfl⟩ := List.mem_map.1 hp
      exact rowsT_ne h.row (h.nx c hc) hne k e1 e2
    · exact List.Pairwise.map _ (fun p q h => h) h.apart
theorem Hold.makeT (hne : E ≠ EI) (h : Hold w0 w L) (o : OwnT E EI w' w.heap.size v rs) (b : Below w.heap.size w w') : Hold w0 w' (tis E EI v rs ++ L) :=
  h.makeLT _ (o.items hne).1 (o.items hne).2 b
theorem Hold.getT_ (h : Hold w0 w (L1 ++ (tis E EI v rs ++ L2))) : OwnT E EI w w0.heap.size v rs := by
  refine ⟨h.own (trow E v rs) (by simp [tis]), fun c hc => h.own (ints EI c.v c.xs) ?_, ?_⟩
  · simp only [List.mem_append]
    exact .inr (.inl (List.mem_cons_of_mem _ (List.mem_map_of_mem hc)))
  · have h1 := (List.pairwise_append.1 (List.pairwise_append.1 h.apart).2.1).1
    have h2 := (List.pairwise_cons.1 h1).2
    unfold tls at h2
    rw [List.pairwise_map] at h2
    exact h2
theorem Hold.rdT_ {ao : Option Addr} {n cap : Nat} (h : Hold w0 w (L1 ++ (tis E EI (.slice ao n cap) rs ++ L2))) : RdT w ao rs.length rs := by
  obtain ⟨ao', cap', e, o, r⟩ := h.getT_.get
  cases e
  exact r
end
end Go.Proofs.Ytbbodgeoenjdkaa
