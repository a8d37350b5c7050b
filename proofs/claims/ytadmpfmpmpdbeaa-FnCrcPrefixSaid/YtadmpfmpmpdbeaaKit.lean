/-
  Plain words on memory for the laws of this seat: a slice of 64-bit numbers that reads as a list ('Rd'), one that a call has made ('Own'), what a call leaves that makes such slices ('Makes', 'Makes2'). No program is named here.
-/
import Derived.WalkKit
import Derived.Lib.Hide
import Derived.Deep.Draws
namespace Go.Proofs.Ytadmpfmpmpdbeaa
open Go.RowKit

/-- The slice value at 'ao' of length n reads in w as the numbers xs. -/
structure Rd (w : World) (ao : Option Addr) (n : Nat) (xs : List Int) : Prop where
  len : xs.length = n
  here : 0 < n → ∃ b off, ao = some ⟨b, off, none⟩ ∧ ∀ i, i < n → w.cell? ⟨b, off + i, none⟩ = some (.int .i64 (xs.getD i 0))

/-- A slice of the call's own, from block 'base' on, that holds the numbers xs; E: the number of its element type. -/
def Own (E : Nat) (w : World) (base : Nat) (v : Value) (xs : List Int) : Prop := w.ownsRow base E 1 v xs.length (xs.map (Value.int .i64))

/-- What a call leaves that makes one slice. -/
def Makes (E : Nat) (w : World) (xs : List Int) (e : Ending) (w' : World) : Prop :=
  ∃ v, e = .returned v ∧ Own E w' w.heap.size v xs ∧ Below w.heap.size w w'
/-- What a call leaves that makes one slice and hands back a number beside it. -/
def Makes2 (E : Nat) (w : World) (xs : List Int) (c : Int) (e : Ending) (w' : World) : Prop :=
  ∃ v, e = .returned (.tuple #[v, .int .i64 c]) ∧ Own E w' w.heap.size v xs ∧ Below w.heap.size w w'
/-- What a call leaves that makes one slice and hands back a bool beside it. -/
def MakesB (E : Nat) (w : World) (xs : List Int) (c : Bool) (e : Ending) (w' : World) : Prop :=
  ∃ v, e = .returned (.tuple #[v, .bool c]) ∧ Own E w' w.heap.size v xs ∧ Below w.heap.size w w'
/-- What a call leaves that writes only into block g. -/
def Only (g : Option Nat) (w w' : World) : Prop := w.grownBy w' g

section
variable {w w' : World} {E base n : Nat} {ao : Option Addr} {v : Value} {xs : List Int}

theorem below_size (h : Below w.heap.size w w') : w.heap.size ≤ w'.heap.size := h.size
theorem Rd.nil_ : Rd w ao 0 [] := ⟨rfl, fun h => absurd h (by omega)⟩
theorem Rd.keep (h : Rd w ao n xs) (hk : ∀ b o, b < w.heap.size → w'.cell? ⟨b, o, none⟩ = w.cell? ⟨b, o, none⟩) : Rd w' ao n xs :=
  ⟨h.len, fun hn => by
    obtain ⟨b, off, e, hc⟩ := h.here hn
    exact ⟨b, off, e, fun i hi => (hk _ _ (World.block_lt_of_cell? w _ (hc i hi))).trans (hc i hi)⟩⟩
theorem Rd.below (h : Rd w ao n xs) (hb : Below w.heap.size w w') : Rd w' ao n xs := h.keep fun b o hlt => hb.cell (p := ⟨b, o, none⟩) hlt
/-- 's[a : a+k]', as the walk spells it where a is not the capacity. -/
theorem Rd.slice (h : Rd w ao n xs) {a k : Nat} (hak : a + k ≤ n) : Rd w (Option.map (fun x => x.add a) ao) k ((xs.drop a).take k) := by
  have hl := h.len
  refine ⟨by rw [List.length_take, List.length_drop]; omega, fun hk => ?_⟩
  obtain ⟨b, off, rfl, hc⟩ := h.here (by omega)
  refine ⟨b, off + a, by simp [Addr.add_lit], fun i hi => ?_⟩
  rw [Nat.add_assoc, hc (a + i) (by omega)]
  simp [List.getD, hi, List.getElem?_drop]
/-- 's[a : a+k]' where a is the capacity: nothing is left. -/
theorem Rd.slice_end (h : Rd w ao n xs) {a k cap : Nat} (hak : a + k ≤ n) (hn : n ≤ cap) (ha : cap = a) : Rd w ao k ((xs.drop a).take k) := by
  have hk : k = 0 := by omega
  subst hk
  rw [List.take_zero]
  have := h.len
  exact Rd.nil_
theorem Rd.block (h : Rd w ao n xs) (hn : 0 < n) : ∃ b off, ao = some ⟨b, off, none⟩ ∧ b < w.heap.size := by
  obtain ⟨b, off, e, hc⟩ := h.here hn
  exact ⟨b, off, e, World.block_lt_of_cell? w _ (hc 0 hn)⟩

theorem Own.below (h : Own E w base v xs) (hb : Below w.heap.size w w') : Own E w' base v xs := by
  obtain ⟨h1, h2⟩ := h
  refine ⟨h1, ?_⟩
  rcases h2 with h2 | ⟨g, cap, cur, e, hg, hh, r⟩
  · exact .inl h2
  · exact .inr ⟨g, cap, cur, e, hg, by rw [hb.block g (Array.getElem?_eq_some_iff.1 hh).1]; exact hh, r⟩
theorem Own.more (h : Own E w base v xs) {base' : Nat} (hb : base' ≤ base) : Own E w base' v xs := by
  obtain ⟨h1, h2⟩ := h
  refine ⟨h1, ?_⟩
  rcases h2 with h2 | ⟨g, cap, cur, e, hg, r⟩
  · exact .inl h2
  · exact .inr ⟨g, cap, cur, e, Nat.le_trans hb hg, r⟩
/-- What an owned slice looks like. -/
theorem Own.form (h : Own E w base v xs) : ∃ ao cap, v = .slice ao xs.length cap ∧ Rd w ao xs.length xs ∧ xs.length ≤ cap ∧ cap ≤ maxLen ∧ (v = .slice none 0 0 ∨ ∃ g, ao = some ⟨g, 0, none⟩ ∧ base ≤ g ∧ g < w.heap.size) := by
  have h0 := h
  obtain ⟨h1, h2⟩ := h
  rcases h2 with ⟨rfl, h2⟩ | ⟨g, cap, cur, rfl, hg, hh, hn, hcap, hsz, htake⟩
  · have : xs = [] := List.length_eq_zero_iff.1 h2
    subst this
    exact ⟨none, 0, rfl, Rd.nil_, Nat.le_refl _, by unfold maxLen; omega, .inl rfl⟩
  · refine ⟨_, cap, rfl, ⟨rfl, fun _ => ⟨g, 0, rfl, fun i hi => ?_⟩⟩, hn, hcap, .inr ⟨g, rfl, hg, (Array.getElem?_eq_some_iff.1 hh).1⟩⟩
    unfold Own at h0
    rw [Nat.zero_add, World.ownsRow.cellAt h0 i (by omega)]
    simp [List.getD, List.getElem?_eq_getElem hi]
theorem Own.cap {cap : Nat} (h : Own E w base (.slice ao n cap) xs) : n ≤ cap ∧ cap ≤ 9223372036854775807 := by
  obtain ⟨ao', cap', e, -, h1, h2, -⟩ := h.form
  cases e
  unfold maxLen at h2
  exact ⟨h1, by omega⟩
theorem Own.of_alloc_nil (hE : base ≤ w.heap.size) : Own E (w.alloc (.cells #[] E)) base (.slice (some ⟨w.heap.size, 0, none⟩) 0 0) [] :=
  World.ownsRow_made w #[] 0 hE (by unfold maxLen; omega) rfl
theorem Own.nil_ : Own E w base (.slice none 0 0) [] := World.ownsRow_nil _ _ _ _

theorem Own.get (h : Own E w base v xs) : ∃ ao cap, v = .slice ao xs.length cap ∧ Own E w base (.slice ao xs.length cap) xs ∧ Rd w ao xs.length xs := by
  obtain ⟨ao, cap, rfl, r, -, -, -⟩ := h.form
  exact ⟨ao, cap, rfl, h, r⟩
theorem Makes.get {e : Ending} (h : Makes E w xs e w') : ∃ ao cap, e = .returned (.slice ao xs.length cap) ∧ Own E w' w.heap.size (.slice ao xs.length cap) xs ∧ Rd w' ao xs.length xs ∧ Below w.heap.size w w' := by
  obtain ⟨v, rfl, o, b⟩ := h
  obtain ⟨ao, cap, rfl, o, r⟩ := o.get
  exact ⟨ao, cap, rfl, o, r, b⟩
theorem Makes2.get {e : Ending} {c : Int} (h : Makes2 E w xs c e w') : ∃ ao cap, e = .returned (.tuple #[.slice ao xs.length cap, .int .i64 c]) ∧ Own E w' w.heap.size (.slice ao xs.length cap) xs ∧ Rd w' ao xs.length xs ∧ Below w.heap.size w w' := by
  obtain ⟨v, rfl, o, b⟩ := h
  obtain ⟨ao, cap, rfl, o, r⟩ := o.get
  exact ⟨ao, cap, rfl, o, r, b⟩
theorem MakesB.get {e : Ending} {c : Bool} (h : MakesB E w xs c e w') : ∃ ao cap, e = .returned (.tuple #[.slice ao xs.length cap, .bool c]) ∧ Own E w' w.heap.size (.slice ao xs.length cap) xs ∧ Rd w' ao xs.length xs ∧ Below w.heap.size w w' := by
  obtain ⟨v, rfl, o, b⟩ := h
  obtain ⟨ao, cap, rfl, o, r⟩ := o.get
  exact ⟨ao, cap, rfl, o, r, b⟩
/-- Two steps, the second from the size that the first left on. -/
theorem below_step {a : World} {B : Nat} (h : Below B a w) (hB : B ≤ w.heap.size) (k : Below w.heap.size w w') : Below B a w' := h.trans (k.mono hB)
theorem below_two {a : World} (h : Below a.heap.size a w) (k : Below w.heap.size w w') : Below a.heap.size a w' := h.trans (k.mono h.size)

/-- A write into one owned row leaves a slice alone that lies below it. -/
theorem Rd.only {g : Option Nat} (h : Rd w ao n xs) (ho : w.grownBy w' g) (hg : ∀ b off, ao = some ⟨b, off, none⟩ → g ≠ some b) : Rd w' ao n xs :=
  ⟨h.len, fun hn => by
    obtain ⟨b, off, e, hc⟩ := h.here hn
    exact ⟨b, off, e, fun i hi => ho.cell (hc i hi) (fun h => hg b off e h.symm)⟩⟩
theorem Own.only {g : Option Nat} (h : Own E w base v xs) (ho : w.grownBy w' g) (hg : v.ownBlock = none ∨ v.ownBlock ≠ g) : Own E w' base v xs := World.ownsRow.kept h ho hg
theorem only_below {a : World} {g : Option Nat} {B : Nat} (h : Below B a w) (ho : w.grownBy w' g) (hB : B ≤ w.heap.size) (hg : ∀ k, g = some k → B ≤ k) : Below B a w' := h.grown ho hB hg
theorem Own.block (h : Own E w base v xs) : ∀ k, v.ownBlock = some k → base ≤ k ∧ k < w.heap.size := World.ownsRow.lt h
theorem below_drewN' {B : Nat} {a : World} (h : Below B a w) (k : Nat) : Below B a (w.drewN k) := ⟨h.os, h.tape, h.output, h.size, h.block⟩
end

/-- A slice argument, as the shell of a law's proof opens it, reads as its elements. -/
theorem rd_of_row {w : World} {a : Option Addr} {len cap : Nat} {zs : List Int}
    (h : (a = none ∧ len = 0 ∧ cap = 0 ∧ zs = []) ∨ ∃ x, a = some x ∧ len ≤ cap ∧ cap ≤ maxLen ∧ zs.length = cap ∧ (∀ i, i < zs.length → w.cell? (x.add i) = some (.int .i64 (zs.getD i 0))) ∧ ∀ n ∈ zs, (Lit.int .i64 n).wf = true) :
    Rd w a len (zs.take len) := by
  rcases h with ⟨rfl, rfl, rfl, rfl⟩ | ⟨x, rfl, hl, hm, hz, hc, -⟩
  · exact Rd.nil_
  · refine ⟨by rw [List.length_take]; omega, fun h0 => ?_⟩
    obtain ⟨b, off, spot⟩ := x
    have hspot : spot = none := by simpa [Addr.add] using World.cell?_spot (hc 0 (by omega))
    subst hspot
    refine ⟨b, off, rfl, fun i hi => ?_⟩
    have h1 := hc i (by omega)
    rw [Addr.add_lit] at h1
    rw [h1]
    simp [List.getD, hi]
theorem grown_trans {a b c : World} {row : Option Nat} (h : a.grownBy b row) (k : b.grownBy c row) : a.grownBy c row :=
  ⟨k.os.trans h.os, k.tape.trans h.tape, k.output.trans h.output, Nat.le_trans h.size k.size, fun i hi hne => (k.block i (Nat.lt_of_lt_of_le hi h.size) hne).trans (h.block i hi hne)⟩
theorem take_succ' (zs : List Int) (k : Nat) (hk : k < zs.length) : zs.take (k + 1) = zs.take k ++ [zs.getD k 0] := by
  rw [List.take_add_one, List.getElem?_eq_getElem hk]; simp [List.getD, List.getElem?_eq_getElem hk]
theorem ret_int {k : IntKind} {a b : Int} (h : a = b) : Ending.returned (.int k a) = .returned (.int k b) := by rw [h]
theorem ret_bool {a b : Bool} (h : a = b) : Ending.returned (.bool a) = .returned (.bool b) := by rw [h]

end Go.Proofs.Ytadmpfmpmpdbeaa
