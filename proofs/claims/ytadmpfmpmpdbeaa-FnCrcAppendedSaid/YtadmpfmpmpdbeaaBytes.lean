/-
  Slices of bytes of the call's own; strings as lists of numbers. No program is named here.
-/
import Derived.Test.YtadmpfmpmpdbeaaMem
import Derived.Laws.BytesArg
namespace Go.Proofs.Ytadmpfmpmpdbeaa
open Go.RowKit

/-- A slice of the call's own, from block 'base' on, that holds numbers of kind k; E: the number of its element type. -/
def OwnK (k : IntKind) (E : Nat) (w : World) (base : Nat) (v : Value) (xs : List Int) : Prop := w.ownsRow base E 1 v xs.length (xs.map (Value.int k))
/-- The row of the program's table for a byte. -/
abbrev InfoU8 (P : Program) (E : Nat) : Prop := (P.info? E).map (fun i => (i.zero, i.size, i.bytes)) = some (some (.int .u8 0), 1, 1)

section
variable {k : IntKind} {E base : Nat} {w w' : World} {v : Value} {xs : List Int}
theorem OwnK.below (h : OwnK k E w base v xs) (hb : Below w.heap.size w w') : OwnK k E w' base v xs := by
  obtain ⟨h1, h2⟩ := h
  refine ⟨h1, ?_⟩
  rcases h2 with h2 | ⟨g, cap, cur, e, hg, hh, r⟩
  · exact .inl h2
  · exact .inr ⟨g, cap, cur, e, hg, by rw [hb.block g (Array.getElem?_eq_some_iff.1 hh).1]; exact hh, r⟩
theorem OwnK.of_alloc_nil (hE : base ≤ w.heap.size) : OwnK k E (w.alloc (.cells #[] E)) base (.slice (some ⟨w.heap.size, 0, none⟩) 0 0) [] :=
  World.ownsRow_made w #[] 0 hE (by unfold maxLen; omega) rfl
theorem OwnK.block (h : OwnK k E w base v xs) : ∀ g, v.ownBlock = some g → base ≤ g ∧ g < w.heap.size := World.ownsRow.lt h
theorem mapK_set (xs : List Int) (j : Nat) (y : Int) : (xs.map (Value.int k)).set j (.int k y) = (xs.set j y).map (Value.int k) := (List.map_set).symm
theorem ownK_store {g n cap : Nat} {zs : List Int} (ho : OwnK k E w base (.slice (some ⟨g, 0, none⟩) n cap) zs) (hl : zs.length = n) {j : Nat} (hj : j < n) (y : Int) :
    w.cell? ⟨g, j, none⟩ = some (.int k (zs.getD j 0)) ∧ w.frozen? ⟨g, j, none⟩ = false ∧ OwnK k E (w.setCell ⟨g, j, none⟩ (.int k y)) base (.slice (some ⟨g, 0, none⟩) n cap) (zs.set j y) ∧ Below base w (w.setCell ⟨g, j, none⟩ (.int k y)) := by
  unfold OwnK at ho
  rw [hl] at ho
  refine ⟨?_, World.ownsRow.frozenAt ho j, ?_, (Below.refl _ _).setCell (by exact (World.ownsRow.lt ho g rfl).1) _⟩
  · rw [World.ownsRow.cellAt ho j (by omega)]
    have : j < zs.length := by omega
    simp [List.getD, List.getElem?_eq_getElem this]
  · have h := (World.ownsRow.stored ho j (.int k y)).1
    rw [mapK_set] at h
    unfold OwnK
    rw [List.length_set, hl]
    exact h
/-- 'string(b)' of a slice of bytes of the call's own. -/
theorem OwnK.string {P : Program} {src : TypeId} (h : OwnK .u8 E w base v xs) (hs : P.underlying src = some (.slice E)) (he : P.underlying E = some (.int .u8)) :
    ∀ dst, P.underlying dst = some .string → (convert src dst v).run P w = .ok (.string (strOfNums xs)) w := by
  intro dst hd
  obtain ⟨h1, h2⟩ := h
  have h0 : OwnK .u8 E w base v xs := ⟨h1, h2⟩
  rcases h2 with ⟨rfl, h2⟩ | ⟨g, cap, cur, rfl, hg, hh, hn, hcap, hsz, htake⟩
  · have : xs = [] := List.length_eq_zero_iff.1 h2
    subst this
    exact run_convert_bytes_nil w src E hs he 0 0 dst hd
  · refine run_convert_bytes_arg w src E hs he g 0 _ cap xs rfl (fun i hi => ?_) dst hd
    unfold OwnK at h0
    rw [Nat.zero_add, World.ownsRow.cellAt h0 i (by omega)]
    simp [List.getD, List.getElem?_eq_getElem hi]
end

section
variable {P : Program} {E T : Nat} (w : World) {ops : Array Oper} {rest : List Oper} {o : Oper} {a : Act} {Q : Exit → Act → World → Prop}
/-- 'make([]byte, n)'. -/
theorem make_bytes (hg : o.guard = none) (l c : Operand) (hop : o.op = Op.makeSlice T l c) (base : Nat) (ht : P.underlying T = some (.slice E)) (hi : InfoU8 P E)
    (kl kc : IntKind) (L C : Int) (n : Nat) (hl : a.eval l = .int kl L) (hc : a.eval c = .int kc C) (hL : L = (n : Int)) (hC : C = (n : Int)) (hm : n ≤ 4294967296) (hb : base ≤ w.heap.size)
    (hK : ∀ w', OwnK .u8 E w' base (.slice (some ⟨w.heap.size, 0, none⟩) n n) (List.replicate n 0) → Below base w w' → wpList P ops Q rest (a.put o.dst (.slice (some ⟨w.heap.size, 0, none⟩) n n)) w') :
    wpList P ops Q (o :: rest) a w := by
  obtain ⟨i0, hi, hz0, hz1, hz2⟩ := info_parts hi
  refine wpList_make_full w hg l c T hop base E i0 (.int .u8 0) 1 ht hi hz0 hz1 kl kc L C n hl hc hL hC (by rw [hz2]; omega) (by unfold maxLen; omega) hb fun w' h1 h2 => ?_
  refine hK w' ?_ ((Below.refl _ _).grown h2 hb fun k hk => by cases hk)
  unfold OwnK
  rw [List.length_replicate, List.map_replicate]
  have e : (madeCells (Value.int .u8 0).cells (n * 1)).toList = List.replicate n (Value.int .u8 0) := by
    rw [Nat.mul_one, show (Value.int .u8 0).cells = #[Value.int .u8 0] from rfl, toList_madeCells_one]
  rw [← e]; exact h1
/-- 'append(out, b)' of one byte onto a slice of the call's own. -/
theorem append_byte (hgd : o.guard = none) (s x : Operand)
    (ho : o.op = .call { callee := .builtin .append, args := #[s, x], argTypes := #[T, T] })
    (base : Nat) (ht : P.underlying T = some (.slice E)) (hi : InfoU8 P E)
    (v : Value) (xs : List Int) (hs : a.eval s = v) (hown : OwnK .u8 E w base v xs) (b : Nat) (y : Int) (c : Nat) (hx : a.eval x = .slice (some ⟨b, 0, none⟩) 1 c) (hc : w.cell? ⟨b, 0, none⟩ = some (.int .u8 y))
    (hlen : xs.length ≤ 4294967296) (hbase : base ≤ w.heap.size)
    (h : ∀ v' w', OwnK .u8 E w' base v' (xs ++ [y]) → Below base w w' → wpList P ops Q rest (a.put o.dst v') w') : wpList P ops Q (o :: rest) a w := by
  obtain ⟨i0, hi, hz0, hz1, hz2⟩ := info_parts hi
  refine wpList_append_own w hgd s x T ho base E i0 (.int .u8 0) 1 1 ht hi hz0 hz1 hz2 rfl (by decide) v xs.length _ hs hown ⟨b, 0, none⟩ 1 c [.int .u8 y] hx rfl ?_ ?_ (by unfold maxLen; omega) (by omega) hbase ?_
  · intro j u hj
    match j, hj with
    | 0, hj => simp at hj; subst hj; simpa [Addr.add] using hc
  · intro u hu; simp at hu; subst hu; rfl
  · intro v' w' h1 h2 _
    refine h v' w' ?_ ((Below.refl _ _).grown h2 hbase fun k hk => (hown.block k hk).1)
    unfold OwnK
    simpa using h1
end

/-- A string's bytes as numbers. -/
def nums (s : ByteArray) : List Int := s.data.toList.map fun c => (c.toNat : Int)
theorem nums_len (s : ByteArray) : (nums s).length = s.size := by
  unfold nums
  rw [List.length_map, Array.length_toList]; rfl
theorem nums_getD (s : ByteArray) (k : Nat) (h : k < s.size) : (nums s).getD k 0 = ((s[k]'h).toNat : Int) := by
  have h' : k < s.data.size := h
  unfold nums
  rw [List.getD, List.getElem?_map, Array.getElem?_toList, Array.getElem?_eq_getElem h']
  rfl
end Go.Proofs.Ytadmpfmpmpdbeaa
