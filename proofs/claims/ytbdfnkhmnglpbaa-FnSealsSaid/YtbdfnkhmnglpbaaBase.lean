/-
  Plain words on memory for the laws of this seat: a slice of 64-bit numbers that reads as a list ('Rd'), one that a call has made ('Own'), what a call leaves that makes such slices ('Makes', 'Makes2'). No program is named here.
  Plain facts on lists of numbers: what the leaves of chapter 1 compute. No program is named here.
  Several slices of the call's own, none of which shares memory with another: how they are kept while further calls make memory, draw, or mark one of them. No program is named here.
  The builtin functions append, copy and make on slices of 64-bit numbers of the call's own, in the form that a walk takes. No program is named here.
  Slices of bytes of the call's own; strings as lists of numbers. No program is named here.
  Go's '&', '|', '^' on numbers of kind int64 that are not negative, as arithmetic. No program is named here.
  What the functions of chapter 1 compute, as plain functions on lists, and plain facts on these. No program is named here.
  What FlipBits, DifferingBits, BitsText and ReadBits compute, as plain functions on lists, and plain facts on these. No program is named here.
-/
import Derived.WalkKit
import Derived.Lib.Hide
import Derived.Deep.Draws
import Derived.Laws.AppendOwnNone
import Derived.Laws.CopyOwn
import Derived.Laws.BytesArg
namespace Go.Proofs.Ytbdfnkhmnglpbaa
section
open Go.RowKit

/-- The slice value at 'ao' of length n reads in w as the numbers xs. -/
structure Rd (w : World) (ao : Option Addr) (n : Nat) (xs : List Int) : Prop where
  len : xs.length = n
  here : 0 < n → ∃ b off, ao = some ⟨b, off, none⟩ ∧ ∀ i, i < n → w.cell? ⟨b, off + i, none⟩ = some (.int .i64 (xs.getD i 0))

/-- A slice of the call's own, from block 'base' on, that holds the numbers xs; E: the number of its element type. -/
def Own (E : Nat) (w : World) (base : Nat) (v : Value) (xs : List Int) : Prop := w.ownsRow base E 1 v xs.length (xs.map (Value.int .i64))

/-- What a call leaves that makes one slice. -/
def Makes (E : Nat) (w : World) (xs : List Int) (e : Ending) (w' : World) : Prop :=
  ∃ v, e = .returned v ∧ Own E w' w.heap.size v xs ∧ Below w.heap.size w w'
/-- What a call leaves that makes one slice and hands back a number beside it. -/
def Makes2 (E : Nat) (w : World) (xs : List Int) (c : Int) (e : Ending) (w' : World) : Prop :=
  ∃ v, e = .returned (.tuple #[v, .int .i64 c]) ∧ Own E w' w.heap.size v xs ∧ Below w.heap.size w w'
/-- What a call leaves that makes one slice and hands back a bool beside it. -/
def MakesB (E : Nat) (w : World) (xs : List Int) (c : Bool) (e : Ending) (w' : World) : Prop :=
  ∃ v, e = .returned (.tuple #[v, .bool c]) ∧ Own E w' w.heap.size v xs ∧ Below w.heap.size w w'
/-- What a call leaves that writes only into block g. -/
def Only (g : Option Nat) (w w' : World) : Prop := w.grownBy w' g

section
variable {w w' : World} {E base n : Nat} {ao : Option Addr} {v : Value} {xs : List Int}

theorem below_size (h : Below w.heap.size w w') : w.heap.size ≤ w'.heap.size := h.size
theorem Rd.nil_ : Rd w ao 0 [] := ⟨rfl, fun h => absurd h (by omega)⟩
theorem Rd.keep (h : Rd w ao n xs) (hk : ∀ b o, b < w.heap.size → w'.cell? ⟨b, o, none⟩ = w.cell? ⟨b, o, none⟩) : Rd w' ao n xs :=
  ⟨h.len, fun hn => by
    obtain ⟨b, off, e, hc⟩ := h.here hn
    exact ⟨b, off, e, fun i hi => (hk _ _ (World.block_lt_of_cell? w _ (hc i hi))).trans (hc i hi)⟩⟩
theorem Rd.below (h : Rd w ao n xs) (hb : Below w.heap.size w w') : Rd w' ao n xs := h.keep fun b o hlt => hb.cell (p := ⟨b, o, none⟩) hlt
/-- 's[a : a+k]', as the walk spells it where a is not the capacity. -/
theorem Rd.slice (h : Rd w ao n xs) {a k : Nat} (hak : a + k ≤ n) : Rd w (Option.map (fun x => x.add a) ao) k ((xs.drop a).take k) := by
  have hl := h.len
  refine ⟨by rw [List.length_take, List.length_drop]; omega, fun hk => ?_⟩
  obtain ⟨b, off, rfl, hc⟩ := h.here (by omega)
  refine ⟨b, off + a, by simp [Addr.add_lit], fun i hi => ?_⟩
  rw [Nat.add_assoc, hc (a + i) (by omega)]
  simp [List.getD, hi, List.getElem?_drop]
/-- 's[a : a+k]' where a is the capacity: nothing is left. -/
theorem Rd.slice_end (h : Rd w ao n xs) {a k cap : Nat} (hak : a + k ≤ n) (hn : n ≤ cap) (ha : cap = a) : Rd w ao k ((xs.drop a).take k) := by
  have hk : k = 0 := by omega
  subst hk
  rw [List.take_zero]
  have := h.len
  exact Rd.nil_
theorem Rd.block (h : Rd w ao n xs) (hn : 0 < n) : ∃ b off, ao = some ⟨b, off, none⟩ ∧ b < w.heap.size := by
  obtain ⟨b, off, e, hc⟩ := h.here hn
  exact ⟨b, off, e, World.block_lt_of_cell? w _ (hc 0 hn)⟩

theorem Own.below (h : Own E w base v xs) (hb : Below w.heap.size w w') : Own E w' base v xs := by
  obtain ⟨h1, h2⟩ := h
  refine ⟨h1, ?_⟩
  rcases h2 with h2 | ⟨g, cap, cur, e, hg, hh, r⟩
  · exact .inl h2
  · exact .inr ⟨g, cap, cur, e, hg, by rw [hb.block g (Array.getElem?_eq_some_iff.1 hh).1]; exact hh, r⟩
theorem Own.more (h : Own E w base v xs) {base' : Nat} (hb : base' ≤ base) : Own E w base' v xs := by
  obtain ⟨h1, h2⟩ := h
  refine ⟨h1, ?_⟩
  rcases h2 with h2 | ⟨g, cap, cur, e, hg, r⟩
  · exact .inl h2
  · exact .inr ⟨g, cap, cur, e, Nat.le_trans hb hg, r⟩
/-- What an owned slice looks like. -/
theorem Own.form (h : Own E w base v xs) : ∃ ao cap, v = .slice ao xs.length cap ∧ Rd w ao xs.length xs ∧ xs.length ≤ cap ∧ cap ≤ maxLen ∧ (v = .slice none 0 0 ∨ ∃ g, ao = some ⟨g, 0, none⟩ ∧ base ≤ g ∧ g < w.heap.size) := by
  have h0 := h
  obtain ⟨h1, h2⟩ := h
  rcases h2 with ⟨rfl, h2⟩ | ⟨g, cap, cur, rfl, hg, hh, hn, hcap, hsz, htake⟩
  · have : xs = [] := List.length_eq_zero_iff.1 h2
    subst this
    exact ⟨none, 0, rfl, Rd.nil_, Nat.le_refl _, by unfold maxLen; omega, .inl rfl⟩
  · refine ⟨_, cap, rfl, ⟨rfl, fun _ => ⟨g, 0, rfl, fun i hi => ?_⟩⟩, hn, hcap, .inr ⟨g, rfl, hg, (Array.getElem?_eq_some_iff.1 hh).1⟩⟩
    unfold Own at h0
    rw [Nat.zero_add, World.ownsRow.cellAt h0 i (by omega)]
    simp [List.getD, List.getElem?_eq_getElem hi]
theorem Own.cap {cap : Nat} (h : Own E w base (.slice ao n cap) xs) : n ≤ cap ∧ cap ≤ 9223372036854775807 := by
  obtain ⟨ao', cap', e, -, h1, h2, -⟩ := h.form
  cases e
  unfold maxLen at h2
  exact ⟨h1, by omega⟩
theorem Own.of_alloc_nil (hE : base ≤ w.heap.size) : Own E (w.alloc (.cells #[] E)) base (.slice (some ⟨w.heap.size, 0, none⟩) 0 0) [] :=
  World.ownsRow_made w #[] 0 hE (by unfold maxLen; omega) rfl
theorem Own.nil_ : Own E w base (.slice none 0 0) [] := World.ownsRow_nil _ _ _ _

theorem Own.get (h : Own E w base v xs) : ∃ ao cap, v = .slice ao xs.length cap ∧ Own E w base (.slice ao xs.length cap) xs ∧ Rd w ao xs.length xs := by
  obtain ⟨ao, cap, rfl, r, -, -, -⟩ := h.form
  exact ⟨ao, cap, rfl, h, r⟩
theorem Makes.get {e : Ending} (h : Makes E w xs e w') : ∃ ao cap, e = .returned (.slice ao xs.length cap) ∧ Own E w' w.heap.size (.slice ao xs.length cap) xs ∧ Rd w' ao xs.length xs ∧ Below w.heap.size w w' := by
  obtain ⟨v, rfl, o, b⟩ := h
  obtain ⟨ao, cap, rfl, o, r⟩ := o.get
  exact ⟨ao, cap, rfl, o, r, b⟩
theorem Makes2.get {e : Ending} {c : Int} (h : Makes2 E w xs c e w') : ∃ ao cap, e = .returned (.tuple #[.slice ao xs.length cap, .int .i64 c]) ∧ Own E w' w.heap.size (.slice ao xs.length cap) xs ∧ Rd w' ao xs.length xs ∧ Below w.heap.size w w' := by
  obtain ⟨v, rfl, o, b⟩ := h
  obtain ⟨ao, cap, rfl, o, r⟩ := o.get
  exact ⟨ao, cap, rfl, o, r, b⟩
theorem MakesB.get {e : Ending} {c : Bool} (h : MakesB E w xs c e w') : ∃ ao cap, e = .returned (.tuple #[.slice ao xs.length cap, .bool c]) ∧ Own E w' w.heap.size (.slice ao xs.length cap) xs ∧ Rd w' ao xs.length xs ∧ Below w.heap.size w w' := by
  obtain ⟨v, rfl, o, b⟩ := h
  obtain ⟨ao, cap, rfl, o, r⟩ := o.get
  exact ⟨ao, cap, rfl, o, r, b⟩
/-- Two steps, the second from the size that the first left on. -/
theorem below_step {a : World} {B : Nat} (h : Below B a w) (hB : B ≤ w.heap.size) (k : Below w.heap.size w w') : Below B a w' := h.trans (k.mono hB)
theorem below_two {a : World} (h : Below a.heap.size a w) (k : Below w.heap.size w w') : Below a.heap.size a w' := h.trans (k.mono h.size)

/-- A write into one owned row leaves a slice alone that lies below it. -/
theorem Rd.only {g : Option Nat} (h : Rd w ao n xs) (ho : w.grownBy w' g) (hg : ∀ b off, ao = some ⟨b, off, none⟩ → g ≠ some b) : Rd w' ao n xs :=
  ⟨h.len, fun hn => by
    obtain ⟨b, off, e, hc⟩ := h.here hn
    exact ⟨b, off, e, fun i hi => ho.cell (hc i hi) (fun h => hg b off e h.symm)⟩⟩
theorem Own.only {g : Option Nat} (h : Own E w base v xs) (ho : w.grownBy w' g) (hg : v.ownBlock = none ∨ v.ownBlock ≠ g) : Own E w' base v xs := World.ownsRow.kept h ho hg
theorem only_below {a : World} {g : Option Nat} {B : Nat} (h : Below B a w) (ho : w.grownBy w' g) (hB : B ≤ w.heap.size) (hg : ∀ k, g = some k → B ≤ k) : Below B a w' := h.grown ho hB hg
theorem Own.block (h : Own E w base v xs) : ∀ k, v.ownBlock = some k → base ≤ k ∧ k < w.heap.size := World.ownsRow.lt h
theorem below_drewN' {B : Nat} {a : World} (h : Below B a w) (k : Nat) : Below B a (w.drewN k) := ⟨h.os, h.tape, h.output, h.size, h.block⟩
end

/-- A slice argument, as the shell of a law's proof opens it, reads as its elements. -/
theorem rd_of_row {w : World} {a : Option Addr} {len cap : Nat} {zs : List Int}
    (h : (a = none ∧ len = 0 ∧ cap = 0 ∧ zs = []) ∨ ∃ x, a = some x ∧ len ≤ cap ∧ cap ≤ maxLen ∧ zs.length = cap ∧ (∀ i, i < zs.length → w.cell? (x.add i) = some (.int .i64 (zs.getD i 0))) ∧ ∀ n ∈ zs, (Lit.int .i64 n).wf = true) :
    Rd w a len (zs.take len) := by
  rcases h with ⟨rfl, rfl, rfl, rfl⟩ | ⟨x, rfl, hl, hm, hz, hc, -⟩
  · exact Rd.nil_
  · refine ⟨by rw [List.length_take]; omega, fun h0 => ?_⟩
    obtain ⟨b, off, spot⟩ := x
    have hspot : spot = none := by simpa [Addr.add] using World.cell?_spot (hc 0 (by omega))
    subst hspot
    refine ⟨b, off, rfl, fun i hi => ?_⟩
    have h1 := hc i (by omega)
    rw [Addr.add_lit] at h1
    rw [h1]
    simp [List.getD, hi]
theorem grown_trans {a b c : World} {row : Option Nat} (h : a.grownBy b row) (k : b.grownBy c row) : a.grownBy c row :=
  ⟨k.os.trans h.os, k.tape.trans h.tape, k.output.trans h.output, Nat.le_trans h.size k.size, fun i hi hne => (k.block i (Nat.lt_of_lt_of_le hi h.size) hne).trans (h.block i hi hne)⟩
theorem take_succ' (zs : List Int) (k : Nat) (hk : k < zs.length) : zs.take (k + 1) = zs.take k ++ [zs.getD k 0] := by
  rw [List.take_add_one, List.getElem?_eq_getElem hk]; simp [List.getD, List.getElem?_eq_getElem hk]
theorem ret_int {k : IntKind} {a b : Int} (h : a = b) : Ending.returned (.int k a) = .returned (.int k b) := by rw [h]
theorem ret_bool {a b : Bool} (h : a = b) : Ending.returned (.bool a) = .returned (.bool b) := by rw [h]
end

section

/-- x lies in 0 to hi. -/
def inR (hi x : Int) : Bool := decide (0 ≤ x) && decide (x ≤ hi)
def allIn (hi : Int) (xs : List Int) : Bool := xs.all (inR hi)
def within (most hi : Int) (xs : List Int) : Bool := decide ((xs.length : Int) ≤ most) && allIn hi xs
def isBits (xs : List Int) : Bool := within 8192 1 xs
def isBytes (xs : List Int) : Bool := within 1024 255 xs

theorem inR_true {hi x : Int} (h0 : 0 ≤ x) (h1 : x ≤ hi) : inR hi x = true := by simp [inR, h0, h1]
theorem inR_low {hi x : Int} (h0 : x < 0) : inR hi x = false := by simp only [inR, Bool.and_eq_false_iff, decide_eq_false_iff_not]; left; omega
theorem inR_high {hi x : Int} (h0 : hi < x) : inR hi x = false := by simp only [inR, Bool.and_eq_false_iff, decide_eq_false_iff_not]; right; omega
theorem allIn_succ {hi : Int} {xs : List Int} {k : Nat} (hk : k < xs.length) (h : allIn hi (xs.take k) = true) (hx : inR hi (xs.getD k 0) = true) : allIn hi (xs.take (k + 1)) = true := by
  rw [take_succ' xs k hk]; unfold allIn at *; rw [List.all_append, h]; simp only [List.all_cons, List.all_nil, hx, Bool.and_self]
theorem allIn_no {hi : Int} {xs : List Int} {k : Nat} (hk : k < xs.length) (hx : inR hi (xs.getD k 0) = false) : allIn hi xs = false := by
  unfold allIn
  rw [List.all_eq_false]
  refine ⟨xs[k], List.getElem_mem hk, ?_⟩
  rw [List.getD, List.getElem?_eq_getElem hk] at hx
  simpa using hx
theorem within_long {most hi : Int} {xs : List Int} (h : most < (xs.length : Int)) : within most hi xs = false := by
  have : ¬ ((xs.length : Int) ≤ most) := by omega
  simp [within, this]
theorem within_no {most hi : Int} {xs : List Int} (h : allIn hi xs = false) : within most hi xs = false := by simp [within, h]
theorem within_yes {most hi : Int} {xs : List Int} (h : (xs.length : Int) ≤ most) (h' : allIn hi xs = true) : within most hi xs = true := by simp [within, h, h']
theorem allIn_iff {hi : Int} {xs : List Int} : allIn hi xs = true ↔ ∀ x ∈ xs, 0 ≤ x ∧ x ≤ hi := by
  simp [allIn, inR, List.all_eq_true]
theorem getD_mem' {xs : List Int} {k : Nat} (h : k < xs.length) : xs.getD k 0 ∈ xs := by
  rw [List.getD, List.getElem?_eq_getElem h]; exact List.getElem_mem h
/-- While a list is copied: its first k numbers, then noughts. -/
def fillTo (xs : List Int) (k : Nat) : List Int := xs.take k ++ List.replicate (xs.length - k) 0
theorem fillTo_len (xs : List Int) (k : Nat) (hk : k ≤ xs.length) : (fillTo xs k).length = xs.length := by
  unfold fillTo; rw [List.length_append, List.length_take, List.length_replicate]; omega
theorem fillTo_zero (xs : List Int) : fillTo xs 0 = List.replicate xs.length 0 := by simp [fillTo]
theorem fillTo_all (xs : List Int) : fillTo xs xs.length = xs := by simp [fillTo]
theorem fillTo_succ (xs : List Int) (k : Nat) (hk : k < xs.length) : (fillTo xs k).set k (xs.getD k 0) = fillTo xs (k + 1) := by
  have hm : min k xs.length = k := by omega
  unfold fillTo
  rw [take_succ' xs k hk, List.set_append_right _ _ (by rw [List.length_take]; omega)]
  rw [show xs.length - k = (xs.length - (k + 1)) + 1 from by omega, List.replicate_succ, List.length_take, hm, Nat.sub_self, List.set_cons_zero]
  simp
/-- The numbers that a marking writes: q, q + 1, .. -/
def marks (q : Int) : Nat → List Int
  | 0 => []
  | n + 1 => q :: marks (q + 1) n
theorem marks_len (q : Int) (n : Nat) : (marks q n).length = n := by
  induction n generalizing q with
  | zero => rfl
  | succ n ih => simp [marks, ih]
theorem marks_getD (q : Int) (n i : Nat) (h : i < n) : (marks q n).getD i 0 = q + i := by
  induction n generalizing q i with
  | zero => omega
  | succ n ih =>
    cases i with
    | zero => simp [marks]
    | succ i => simp only [marks, List.getD_cons_succ]; rw [ih (q + 1) i (by omega)]; omega
theorem marks_succ (q : Int) (n : Nat) : marks q (n + 1) = marks q n ++ [q + n] := by
  induction n generalizing q with
  | zero => simp [marks]
  | succ n ih => rw [marks, ih (q + 1)]; simp only [marks, List.cons_append, List.cons.injEq, true_and]; congr 2; omega
/-- While a list is marked: the first k numbers are marks, the others as they were. -/
def markTo (q : Int) (xs : List Int) (k : Nat) : List Int := marks q k ++ xs.drop k
theorem markTo_len (q : Int) (xs : List Int) (k : Nat) (hk : k ≤ xs.length) : (markTo q xs k).length = xs.length := by
  unfold markTo; rw [List.length_append, marks_len, List.length_drop]; omega
theorem markTo_zero (q : Int) (xs : List Int) : markTo q xs 0 = xs := by simp [markTo, marks]
theorem markTo_all (q : Int) (xs : List Int) : markTo q xs xs.length = marks q xs.length := by simp [markTo]
theorem markTo_succ (q : Int) (xs : List Int) (k : Nat) (hk : k < xs.length) : (markTo q xs k).set k (q + k) = markTo q xs (k + 1) := by
  unfold markTo
  rw [List.set_append_right _ _ (by rw [marks_len]; exact Nat.le_refl _), marks_len, Nat.sub_self, marks_succ, List.drop_eq_getElem_cons hk, List.set_cons_zero]
  simp
theorem list_eq_of_take {xs ys : List Int} {n : Nat} (hx : xs.length = n) (hy : ys.length = n) (h : xs.take n = ys.take n) : xs = ys := by
  rwa [List.take_of_length_le (by omega), List.take_of_length_le (by omega)] at h
theorem ne_of_getD {xs ys : List Int} {k : Nat} (h : xs.getD k 0 ≠ ys.getD k 0) : decide (xs = ys) = false := by
  rw [decide_eq_false_iff_not]; intro e; exact h (by rw [e])
theorem ne_of_len {xs ys : List Int} (h : xs.length ≠ ys.length) : decide (xs = ys) = false := by
  rw [decide_eq_false_iff_not]; intro e; exact h (by rw [e])
theorem take_eq_succ {xs ys : List Int} {k : Nat} (hx : k < xs.length) (hy : k < ys.length) (h : xs.take k = ys.take k) (he : xs.getD k 0 = ys.getD k 0) : xs.take (k + 1) = ys.take (k + 1) := by
  rw [take_succ' xs k hx, take_succ' ys k hy, h, he]
theorem map_set (xs : List Int) (k : Nat) (v : Int) : (xs.map (Value.int .i64)).set k (.int .i64 v) = (xs.set k v).map (Value.int .i64) := (List.map_set).symm
end

section
open Go.RowKit

/-- Since w0 nothing old has changed; every slice of L is the call's own and reads as its list; no two of them share a block. -/
structure Held (E : Nat) (w0 w : World) (L : List (Value × List Int)) : Prop where
  below : Below w0.heap.size w0 w
  own : ∀ p ∈ L, Own E w w0.heap.size p.1 p.2
  apart : L.Pairwise fun p q => ∀ k, p.1.ownBlock = some k → q.1.ownBlock ≠ some k

section
variable {E : Nat} {w0 w w' : World} {L : List (Value × List Int)} {v : Value} {xs : List Int}
theorem Held.start : Held E w w [] := ⟨Below.refl _ _, (fun _ h => by cases h), List.Pairwise.nil⟩
theorem Held.still (h : Held E w0 w L) (b : Below w.heap.size w w') : Held E w0 w' L :=
  ⟨below_two h.below b, fun p hp => (h.own p hp).below b, h.apart⟩
theorem Held.make (h : Held E w0 w L) (o : Own E w' w.heap.size v xs) (b : Below w.heap.size w w') : Held E w0 w' ((v, xs) :: L) := by
  refine ⟨below_two h.below b, fun p hp => ?_, List.Pairwise.cons (fun q hq k hk e => ?_) h.apart⟩
  · rcases List.mem_cons.1 hp with rfl | hp
    · exact o.more h.below.size
    · exact (h.own p hp).below b
  · have h1 := (o.block k hk).1
    have h2 := ((h.own q hq).block k e).2
    omega
theorem Held.get (h : Held E w0 w L) (i : Nat) (hi : L[i]? = some (v, xs)) : Own E w w0.heap.size v xs := h.own (v, xs) (List.mem_of_getElem? hi)
theorem Held.rd {ao : Option Addr} {n cap : Nat} (h : Held E w0 w L) (i : Nat) (hi : L[i]? = some (.slice ao n cap, xs)) (_ : xs.length = n) : Rd w ao n xs := by
  obtain ⟨ao', cap', e, o, r⟩ := (h.get i hi).get
  cases e
  exact r
theorem Held.mark (L1 : List (Value × List Int)) {L2 : List (Value × List Int)} {ys : List Int} (h : Held E w0 w (L1 ++ (v, xs) :: L2)) (o : Own E w' w0.heap.size v ys) (g : w.grownBy w' v.ownBlock) : Held E w0 w' (L1 ++ (v, ys) :: L2) := by
  have ho := h.own
  have ha := h.apart
  have hb : ∀ k, v.ownBlock = some k → w0.heap.size ≤ k := fun k hk => ((ho (v, xs) (by simp)).block k hk).1
  refine ⟨h.below.grown g h.below.size hb, fun p hp => ?_, ?_⟩
  · rw [List.mem_append, List.mem_cons] at hp
    rw [List.pairwise_append, List.pairwise_cons] at ha
    rcases hp with hp | rfl | hp
    · refine (ho p (by simp [hp])).only g ?_
      cases hk : p.1.ownBlock with
      | none => exact .inl rfl
      | some k => exact .inr (fun e => ha.2.2 p hp (v, xs) (by simp) k hk e.symm)
    · exact o
    · refine (ho p (by simp [hp])).only g ?_
      cases hk : p.1.ownBlock with
      | none => exact .inl rfl
      | some k => exact .inr (fun e => ha.2.1.1 p hp k e.symm hk)
  · rw [List.pairwise_append, List.pairwise_cons] at ha ⊢
    refine ⟨ha.1, ⟨fun q hq k hk => ha.2.1.1 q hq k hk, ha.2.1.2⟩, fun p hp q hq k hk => ?_⟩
    rcases List.mem_cons.1 hq with rfl | hq
    · exact ha.2.2 p hp (v, xs) (by simp) k hk
    · exact ha.2.2 p hp q (by simp [hq]) k hk
end
end

section
open Go.RowKit

/-- The row of the program's table for a 64-bit number. -/
abbrev Info64 (P : Program) (E : Nat) : Prop := (P.info? E).map (fun i => (i.zero, i.size, i.bytes)) = some (some (.int .i64 0), 1, 8)

/-- The one cell of a block that has just been laid. -/
theorem new_cell {w : World} {b : Nat} (hb : b = w.heap.size) {v : Value} {t : TypeId} : (w.alloc (.cells #[v] t)).cell? ⟨b, 0, none⟩ = some v := by
  subst hb
  rw [World.cell?_alloc_at _ _ _ _ rfl]; rfl
/-- A store into a slice of the call's own: what the walk asks ahead of it, and what is owned behind it. -/
theorem own_store {E : Nat} {w : World} {base g n cap : Nat} {zs : List Int} (ho : Own E w base (.slice (some ⟨g, 0, none⟩) n cap) zs) (hl : zs.length = n) {k : Nat} (hk : k < n) (y : Int) :
    w.cell? ⟨g, k, none⟩ = some (.int .i64 (zs.getD k 0)) ∧ w.frozen? ⟨g, k, none⟩ = false ∧ Own E (w.setCell ⟨g, k, none⟩ (.int .i64 y)) base (.slice (some ⟨g, 0, none⟩) n cap) (zs.set k y) ∧ Below base w (w.setCell ⟨g, k, none⟩ (.int .i64 y)) := by
  unfold Own at ho
  rw [hl] at ho
  refine ⟨?_, World.ownsRow.frozenAt ho k, ?_, (Below.refl _ _).setCell (by exact (World.ownsRow.lt ho g rfl).1) _⟩
  · rw [World.ownsRow.cellAt ho k (by omega)]
    have : k < zs.length := by omega
    simp [List.getD, List.getElem?_eq_getElem this]
  · have h := (World.ownsRow.stored ho k (.int .i64 y)).1
    rw [map_set] at h
    unfold Own
    rw [List.length_set, hl]
    exact h
section
variable {P : Program} {E T : Nat} (w : World) {ops : Array Oper} {rest : List Oper} {o : Oper} {a : Act} {Q : Exit → Act → World → Prop}

/-- 'append(out, x)' of one number onto a slice of the call's own. -/
theorem append_one (hgd : o.guard = none) (s x : Operand)
    (ho : o.op = .call { callee := .builtin .append, args := #[s, x], argTypes := #[T, T] })
    (base : Nat) (ht : P.underlying T = some (.slice E)) (hi : Info64 P E)
    (v : Value) (xs : List Int) (hs : a.eval s = v) (hown : Own E w base v xs) (b : Nat) (y : Int) (c : Nat) (hx : a.eval x = .slice (some ⟨b, 0, none⟩) 1 c) (hc : w.cell? ⟨b, 0, none⟩ = some (.int .i64 y))
    (hlen : xs.length ≤ 4294967296) (hbase : base ≤ w.heap.size)
    (h : ∀ v' w', Own E w' base v' (xs ++ [y]) → Below base w w' → wpList P ops Q rest (a.put o.dst v') w') : wpList P ops Q (o :: rest) a w := by
  obtain ⟨i0, hi, hz0, hz1, hz2⟩ := info_parts hi
  refine wpList_append_own w hgd s x T ho base E i0 (.int .i64 0) 1 8 ht hi hz0 hz1 hz2 rfl (by decide) v xs.length _ hs hown ⟨b, 0, none⟩ 1 c [.int .i64 y] hx rfl ?_ ?_ (by unfold maxLen; omega) (by omega) hbase ?_
  · intro j u hj
    match j, hj with
    | 0, hj => simp at hj; subst hj; simpa [Addr.add] using hc
  · intro u hu; simp at hu; subst hu; rfl
  · intro v' w' h1 h2 _
    refine h v' w' ?_ ((Below.refl _ _).grown h2 hbase fun k hk => (hown.block k hk).1)
    unfold Own
    simpa using h1

/-- 'append(out, xs...)' of a whole slice, a nil one too. -/
theorem append_list (hgd : o.guard = none) (s x : Operand)
    (ho : o.op = .call { callee := .builtin .append, args := #[s, x], argTypes := #[T, T] })
    (base : Nat) (ht : P.underlying T = some (.slice E)) (hi : Info64 P E)
    (v : Value) (xs : List Int) (hs : a.eval s = v) (hown : Own E w base v xs) (ao : Option Addr) (n c : Nat) (ys : List Int) (hx : a.eval x = .slice ao n c) (hr : Rd w ao n ys)
    (hlen : xs.length + n ≤ 4294967296) (hbase : base ≤ w.heap.size)
    (h : ∀ v' w', Own E w' base v' (xs ++ ys) → Below base w w' → wpList P ops Q rest (a.put o.dst v') w') : wpList P ops Q (o :: rest) a w := by
  obtain ⟨i0, hi, hz0, hz1, hz2⟩ := info_parts hi
  rcases ao with _ | ad
  · have hn : n = 0 := by
      rcases Nat.eq_zero_or_pos n with h0 | h0
      · exact h0
      · obtain ⟨_, _, e, _⟩ := hr.here h0; cases e
    subst hn
    have hys : ys = [] := List.length_eq_zero_iff.1 hr.len
    subst hys
    refine wpList_plain hgd fun K hK => ?_
    have hrun : (Builtin.append_ #[T, T] o.type #[v, .slice none 0 c]).run P w = .ok v w := by
      have hown0 := hown
      rcases hown0.2 with ⟨rfl, _⟩ | ⟨g, cap, cur, rfl, _, _, hnc, _⟩
      · simp [Builtin.append_, run_underlying ht, sizeOf, typeInfo, hi, Builtin.lenOf, Builtin.firstCells]
      · simp [Builtin.append_, run_underlying ht, sizeOf, typeInfo, hi, Builtin.lenOf, Builtin.firstCells, hnc, storeCells]
    unfold Oper.wp
    simp [execOp, ho, resolve, invoke, builtin, hs, hx, hrun, Result.andThen]
    exact hK _ _ (h v w (by simpa using hown) (Below.refl _ _))
  · have hcells : ∀ j u, (ys.map (Value.int .i64))[j]? = some u → w.cell? (ad.add j) = some u := by
      intro j u hu
      rw [List.getElem?_map, Option.map_eq_some_iff] at hu
      obtain ⟨y, hy, rfl⟩ := hu
      have hj : j < n := by have := (List.getElem?_eq_some_iff.1 hy).1; have := hr.len; omega
      obtain ⟨b, off, e, hc⟩ := hr.here (by omega)
      cases e
      rw [Addr.add_lit, hc j hj]
      simp [List.getD, hy]
    refine wpList_append_own w hgd s x T ho base E i0 (.int .i64 0) 1 8 ht hi hz0 hz1 hz2 rfl (by decide) v xs.length _ hs hown ad n c (ys.map (Value.int .i64)) hx (by rw [List.length_map, hr.len, Nat.mul_one]) hcells (ints_oneCell _ _) (by unfold maxLen; omega) (by omega) hbase ?_
    intro v' w' h1 h2 _
    refine h v' w' ?_ ((Below.refl _ _).grown h2 hbase fun k hk => (hown.block k hk).1)
    unfold Own
    rw [List.length_append, hr.len, List.map_append]
    exact h1

/-- 'make([]int64, n, c)'. -/
theorem make_cap (hg : o.guard = none) (l c : Operand) (hop : o.op = Op.makeSlice T l c) (base : Nat) (ht : P.underlying T = some (.slice E)) (hi : Info64 P E)
    (kl kc : IntKind) (L C : Int) (n m : Nat) (hl : a.eval l = .int kl L) (hc : a.eval c = .int kc C) (hL : L = (n : Int)) (hC : C = (m : Int)) (hnm : n ≤ m) (hm : m ≤ 4294967296) (hb : base ≤ w.heap.size)
    (hK : ∀ w', Own E w' base (.slice (some ⟨w.heap.size, 0, none⟩) n m) (List.replicate n 0) → Below base w w' → wpList P ops Q rest (a.put o.dst (.slice (some ⟨w.heap.size, 0, none⟩) n m)) w') :
    wpList P ops Q (o :: rest) a w := by
  obtain ⟨i0, hi, hz0, hz1, hz2⟩ := info_parts hi
  refine wpList_plain hg fun K hK' => ?_
  subst hL
  subst hC
  have hrun := run_make (P := P) w T E i0 (.int .i64 0) ht hi hz0 kl kc (n : Int) (m : Int) (by omega) (by omega) (by rw [hz2]; omega) (by omega)
  simp only [Int.toNat_natCast] at hrun
  unfold Oper.wp
  simp [execOp, hop, hl, hc, hrun, Result.andThen]
  refine hK' _ _ (hK _ ?_ ((Below.refl _ _).alloc hb _))
  refine ⟨by simp, .inr ⟨w.heap.size, m, _, ?_, hb, heap_alloc_new w _, by simpa using hnm, by unfold maxLen; omega, by rw [size_madeCells, hz1], ?_⟩⟩
  · simp
  · rw [hz1, show (Value.int .i64 0).cells = #[Value.int .i64 0] from rfl, toList_madeCells_one, List.length_replicate, Nat.mul_one, Nat.mul_one, List.take_replicate, Nat.min_eq_left hnm, List.map_replicate]

/-- 'copy(out, src)' of a whole slice over one of the call's own that is as long. -/
theorem copy_whole (hgd : o.guard = none) (d s : Operand) (ho : o.op = .call { callee := .builtin .copy, args := #[d, s], argTypes := #[T, T] })
    (base : Nat) (ht : P.underlying T = some (.slice E)) (hi : Info64 P E) (g n cap : Nat) (zs : List Int) (hd : a.eval d = .slice (some ⟨g, 0, none⟩) n cap) (hown : Own E w base (.slice (some ⟨g, 0, none⟩) n cap) zs) (hz : zs.length = n)
    (ao : Option Addr) (c : Nat) (xs : List Int) (hs : a.eval s = .slice ao n c) (hr : Rd w ao n xs)
    (h : ∀ w', Own E w' base (.slice (some ⟨g, 0, none⟩) n cap) xs → Below base w w' → wpList P ops Q rest (a.put o.dst (goInt n)) w') : wpList P ops Q (o :: rest) a w := by
  obtain ⟨i0, hi, hz0, hz1, hz2⟩ := info_parts hi
  obtain ⟨h1, h2⟩ := hown
  rcases h2 with ⟨h2, _⟩ | ⟨g', cap', cur, h2, hbg, hh, hn, hcap, hsz, htake⟩
  · cases h2
  simp only [Value.slice.injEq, Option.some.injEq, Addr.mk.injEq, and_true] at h2
  obtain ⟨rfl, -, rfl⟩ := h2
  have hxl := hr.len
  refine wpList_copy_splice hgd d s T T ho E ht (by rw [hi]; simp [hz1]) _ _ n cap n c hd hs g 0 cur.toList E (by simpa using hh) (xs.map (Value.int .i64)) (by rw [List.length_map, hxl]; simp) ?_ ?_ (ints_oneCell _ _) base w (Below.refl _ _) hbg ?_
  · intro hpos
    rw [List.length_map, hxl] at hpos
    obtain ⟨b, off, rfl, hc⟩ := hr.here hpos
    refine ⟨rfl, _, rfl, fun j v hv => ?_⟩
    rw [List.getElem?_map, Option.map_eq_some_iff] at hv
    obtain ⟨y, hy, rfl⟩ := hv
    have hj : j < n := by have := (List.getElem?_eq_some_iff.1 hy).1; omega
    rw [Addr.add_lit, hc j hj]
    simp [List.getD, hy]
  · rw [List.length_map, hxl, Array.length_toList, hsz]; omega
  · intro w' hh' hb
    have hh' := hh'.out
    rw [List.length_map, hxl]
    refine h w' ⟨by simp, .inr ⟨g, cap, _, by rw [hxl], hbg, hh', by omega, hcap, ?_, ?_⟩⟩ hb
    · rw [List.size_toArray, length_splice _ _ _ (by rw [List.length_map, hxl, Array.length_toList, hsz]; omega), Array.length_toList, hsz]
    · simp [splice]
end
end

section
open Go.RowKit

/-- A slice of the call's own, from block 'base' on, that holds numbers of kind k; E: the number of its element type. -/
def OwnK (k : IntKind) (E : Nat) (w : World) (base : Nat) (v : Value) (xs : List Int) : Prop := w.ownsRow base E 1 v xs.length (xs.map (Value.int k))
/-- The row of the program's table for a byte. -/
abbrev InfoU8 (P : Program) (E : Nat) : Prop := (P.info? E).map (fun i => (i.zero, i.size, i.bytes)) = some (some (.int .u8 0), 1, 1)

section
variable {k : IntKind} {E base : Nat} {w w' : World} {v : Value} {xs : List Int}
theorem OwnK.below (h : OwnK k E w base v xs) (hb : Below w.heap.size w w') : OwnK k E w' base v xs := by
  obtain ⟨h1, h2⟩ := h
  refine ⟨h1, ?_⟩
  rcases h2 with h2 | ⟨g, cap, cur, e, hg, hh, r⟩
  · exact .inl h2
  · exact .inr ⟨g, cap, cur, e, hg, by rw [hb.block g (Array.getElem?_eq_some_iff.1 hh).1]; exact hh, r⟩
theorem OwnK.of_alloc_nil (hE : base ≤ w.heap.size) : OwnK k E (w.alloc (.cells #[] E)) base (.slice (some ⟨w.heap.size, 0, none⟩) 0 0) [] :=
  World.ownsRow_made w #[] 0 hE (by unfold maxLen; omega) rfl
theorem OwnK.block (h : OwnK k E w base v xs) : ∀ g, v.ownBlock = some g → base ≤ g ∧ g < w.heap.size := World.ownsRow.lt h
theorem mapK_set (xs : List Int) (j : Nat) (y : Int) : (xs.map (Value.int k)).set j (.int k y) = (xs.set j y).map (Value.int k) := (List.map_set).symm
theorem ownK_store {g n cap : Nat} {zs : List Int} (ho : OwnK k E w base (.slice (some ⟨g, 0, none⟩) n cap) zs) (hl : zs.length = n) {j : Nat} (hj : j < n) (y : Int) :
    w.cell? ⟨g, j, none⟩ = some (.int k (zs.getD j 0)) ∧ w.frozen? ⟨g, j, none⟩ = false ∧ OwnK k E (w.setCell ⟨g, j, none⟩ (.int k y)) base (.slice (some ⟨g, 0, none⟩) n cap) (zs.set j y) ∧ Below base w (w.setCell ⟨g, j, none⟩ (.int k y)) := by
  unfold OwnK at ho
  rw [hl] at ho
  refine ⟨?_, World.ownsRow.frozenAt ho j, ?_, (Below.refl _ _).setCell (by exact (World.ownsRow.lt ho g rfl).1) _⟩
  · rw [World.ownsRow.cellAt ho j (by omega)]
    have : j < zs.length := by omega
    simp [List.getD, List.getElem?_eq_getElem this]
  · have h := (World.ownsRow.stored ho j (.int k y)).1
    rw [mapK_set] at h
    unfold OwnK
    rw [List.length_set, hl]
    exact h
/-- 'string(b)' of a slice of bytes of the call's own. -/
theorem OwnK.string {P : Program} {src : TypeId} (h : OwnK .u8 E w base v xs) (hs : P.underlying src = some (.slice E)) (he : P.underlying E = some (.int .u8)) :
    ∀ dst, P.underlying dst = some .string → (convert src dst v).run P w = .ok (.string (strOfNums xs)) w := by
  intro dst hd
  obtain ⟨h1, h2⟩ := h
  have h0 : OwnK .u8 E w base v xs := ⟨h1, h2⟩
  rcases h2 with ⟨rfl, h2⟩ | ⟨g, cap, cur, rfl, hg, hh, hn, hcap, hsz, htake⟩
  · have : xs = [] := List.length_eq_zero_iff.1 h2
    subst this
    exact run_convert_bytes_nil w src E hs he 0 0 dst hd
  · refine run_convert_bytes_arg w src E hs he g 0 _ cap xs rfl (fun i hi => ?_) dst hd
    unfold OwnK at h0
    rw [Nat.zero_add, World.ownsRow.cellAt h0 i (by omega)]
    simp [List.getD, List.getElem?_eq_getElem hi]
end

section
variable {P : Program} {E T : Nat} (w : World) {ops : Array Oper} {rest : List Oper} {o : Oper} {a : Act} {Q : Exit → Act → World → Prop}
/-- 'make([]byte, n)'. -/
theorem make_bytes (hg : o.guard = none) (l c : Operand) (hop : o.op = Op.makeSlice T l c) (base : Nat) (ht : P.underlying T = some (.slice E)) (hi : InfoU8 P E)
    (kl kc : IntKind) (L C : Int) (n : Nat) (hl : a.eval l = .int kl L) (hc : a.eval c = .int kc C) (hL : L = (n : Int)) (hC : C = (n : Int)) (hm : n ≤ 4294967296) (hb : base ≤ w.heap.size)
    (hK : ∀ w', OwnK .u8 E w' base (.slice (some ⟨w.heap.size, 0, none⟩) n n) (List.replicate n 0) → Below base w w' → wpList P ops Q rest (a.put o.dst (.slice (some ⟨w.heap.size, 0, none⟩) n n)) w') :
    wpList P ops Q (o :: rest) a w := by
  obtain ⟨i0, hi, hz0, hz1, hz2⟩ := info_parts hi
  refine wpList_make_full w hg l c T hop base E i0 (.int .u8 0) 1 ht hi hz0 hz1 kl kc L C n hl hc hL hC (by rw [hz2]; omega) (by unfold maxLen; omega) hb fun w' h1 h2 => ?_
  refine hK w' ?_ ((Below.refl _ _).grown h2 hb fun k hk => by cases hk)
  unfold OwnK
  rw [List.length_replicate, List.map_replicate]
  have e : (madeCells (Value.int .u8 0).cells (n * 1)).toList = List.replicate n (Value.int .u8 0) := by
    rw [Nat.mul_one, show (Value.int .u8 0).cells = #[Value.int .u8 0] from rfl, toList_madeCells_one]
  rw [← e]; exact h1
/-- 'append(out, b)' of one byte onto a slice of the call's own. -/
theorem append_byte (hgd : o.guard = none) (s x : Operand)
    (ho : o.op = .call { callee := .builtin .append, args := #[s, x], argTypes := #[T, T] })
    (base : Nat) (ht : P.underlying T = some (.slice E)) (hi : InfoU8 P E)
    (v : Value) (xs : List Int) (hs : a.eval s = v) (hown : OwnK .u8 E w base v xs) (b : Nat) (y : Int) (c : Nat) (hx : a.eval x = .slice (some ⟨b, 0, none⟩) 1 c) (hc : w.cell? ⟨b, 0, none⟩ = some (.int .u8 y))
    (hlen : xs.length ≤ 4294967296) (hbase : base ≤ w.heap.size)
    (h : ∀ v' w', OwnK .u8 E w' base v' (xs ++ [y]) → Below base w w' → wpList P ops Q rest (a.put o.dst v') w') : wpList P ops Q (o :: rest) a w := by
  obtain ⟨i0, hi, hz0, hz1, hz2⟩ := info_parts hi
  refine wpList_append_own w hgd s x T ho base E i0 (.int .u8 0) 1 1 ht hi hz0 hz1 hz2 rfl (by decide) v xs.length _ hs hown ⟨b, 0, none⟩ 1 c [.int .u8 y] hx rfl ?_ ?_ (by unfold maxLen; omega) (by omega) hbase ?_
  · intro j u hj
    match j, hj with
    | 0, hj => simp at hj; subst hj; simpa [Addr.add] using hc
  · intro u hu; simp at hu; subst hu; rfl
  · intro v' w' h1 h2 _
    refine h v' w' ?_ ((Below.refl _ _).grown h2 hbase fun k hk => (hown.block k hk).1)
    unfold OwnK
    simpa using h1
end

/-- A string's bytes as numbers. -/
def nums (s : ByteArray) : List Int := s.data.toList.map fun c => (c.toNat : Int)
theorem nums_len (s : ByteArray) : (nums s).length = s.size := by
  unfold nums
  rw [List.length_map, Array.length_toList]; rfl
theorem nums_getD (s : ByteArray) (k : Nat) (h : k < s.size) : (nums s).getD k 0 = ((s[k]'h).toNat : Int) := by
  have h' : k < s.data.size := h
  unfold nums
  rw [List.getD, List.getElem?_map, Array.getElem?_toList, Array.getElem?_eq_getElem h']
  rfl
end

section

theorem and_one (n : Int) : bits .and .i64 n 1 = n % 2 := by
  have h1 : (BitVec.ofInt 64 1).toNat = 2 ^ 1 - 1 := by decide
  have key : (BitVec.ofInt 64 n &&& BitVec.ofInt 64 1).toNat = (n % ((2 ^ 64 : Nat) : Int)).toNat % 2 ^ 1 := by
    rw [BitVec.toNat_and, BitVec.toNat_ofInt, h1, Nat.and_two_pow_sub_one_eq_mod]
  show IntKind.i64.wrap ((BitVec.ofInt 64 n &&& BitVec.ofInt 64 1).toNat : Nat) = n % 2
  rw [key, IntKind.wrap_i64]
  omega
theorem ofInt_nat (a : Nat) (h : a < 9223372036854775808) : (BitVec.ofInt 64 (a : Int)).toNat = a := by
  rw [BitVec.toNat_ofInt]; omega
theorem and_nat (a b : Nat) (ha : a < 9223372036854775808) (hb : b < 9223372036854775808) : bits .and .i64 (a : Int) (b : Int) = ((a &&& b : Nat) : Int) := by
  show IntKind.i64.wrap ((BitVec.ofInt 64 (a : Int) &&& BitVec.ofInt 64 (b : Int)).toNat : Nat) = _
  rw [BitVec.toNat_and, ofInt_nat a ha, ofInt_nat b hb, IntKind.wrap_i64]
  have : a &&& b ≤ a := Nat.and_le_left
  omega
theorem or_nat (a b : Nat) (ha : a < 9223372036854775808) (hb : b < 9223372036854775808) : bits .or .i64 (a : Int) (b : Int) = ((a ||| b : Nat) : Int) := by
  show IntKind.i64.wrap ((BitVec.ofInt 64 (a : Int) ||| BitVec.ofInt 64 (b : Int)).toNat : Nat) = _
  rw [BitVec.toNat_or, ofInt_nat a ha, ofInt_nat b hb, IntKind.wrap_i64]
  have : a ||| b < 2 ^ 63 := Nat.or_lt_two_pow (by omega) (by omega)
  omega
theorem xor_nat (a b : Nat) (ha : a < 9223372036854775808) (hb : b < 9223372036854775808) : bits .xor .i64 (a : Int) (b : Int) = ((a ^^^ b : Nat) : Int) := by
  show IntKind.i64.wrap ((BitVec.ofInt 64 (a : Int) ^^^ BitVec.ofInt 64 (b : Int)).toNat : Nat) = _
  rw [BitVec.toNat_xor, ofInt_nat a ha, ofInt_nat b hb, IntKind.wrap_i64]
  have : a ^^^ b < 2 ^ 63 := Nat.xor_lt_two_pow (by omega) (by omega)
  omega
/-- 'n<<1 | b' of a bit b. -/
theorem or_bit (n b : Int) (h0 : 0 ≤ n) (h1 : n < 4611686018427387904) (hb0 : 0 ≤ b) (hb1 : b ≤ 1) : bits .or .i64 (n * 2) b = 2 * n + b := by
  obtain ⟨m, rfl⟩ := Int.eq_ofNat_of_zero_le h0
  obtain ⟨c, rfl⟩ := Int.eq_ofNat_of_zero_le hb0
  have e : (m : Int) * 2 = ((2 ^ 1 * m : Nat) : Int) := by omega
  rw [e, or_nat _ _ (by omega) (by omega), ← Nat.two_pow_add_eq_or_of_lt (by omega)]
  omega
/-- 'b ^ 1' of a bit b. -/
theorem xor_bit (b : Int) (hb0 : 0 ≤ b) (hb1 : b ≤ 1) : bits .xor .i64 b 1 = 1 - b := by
  have : b = 0 ∨ b = 1 := by omega
  rcases this with rfl | rfl <;> decide
theorem pow40 (k : Nat) (h : k ≤ 40) : (1 : Int) ≤ 2 ^ k ∧ (2 : Int) ^ k ≤ 1099511627776 := by
  have h1 : (2 : Nat) ^ k ≤ 2 ^ 40 := Nat.pow_le_pow_right (by omega) h
  have h2 : 1 ≤ (2 : Nat) ^ k := Nat.one_le_two_pow
  have e : ((2 ^ k : Nat) : Int) = (2 : Int) ^ k := by simp
  omega
end

section

/-- Bit number i of v in a width, the most significant one first. -/
def bitAt (v : Int) (width i : Nat) : Int := v / 2 ^ (width - 1 - i) % 2
def topBits (v : Int) (width j : Nat) : List Int := (List.range j).map (bitAt v width)
def bitsOf (v : Int) (width : Nat) : List Int := topBits v width width
def numFrom (n : Int) (bits : List Int) : Int := bits.foldl (fun n b => 2 * n + b) n
def numOf (bits : List Int) : Int := numFrom 0 bits
def appendNumber (xs : List Int) (v width : Int) : List Int × Int :=
  if isBits xs = false then ([], 1) else if ¬ (0 ≤ width ∧ width ≤ 40) ∨ ¬ (0 ≤ v ∧ v < 2 ^ width.toNat) then ([], 2) else if 8192 < (xs.length : Int) + width then ([], 3) else (xs ++ bitsOf v width.toNat, 0)
def numberAt (xs : List Int) (at_ width : Int) : Int × Int :=
  if isBits xs = false then (0, 1) else if ¬ (0 ≤ width ∧ width ≤ 40) ∨ ¬ (0 ≤ at_ ∧ at_ ≤ (xs.length : Int) - width) then (0, 2) else (numOf ((xs.drop at_.toNat).take width.toNat), 0)
def bytesToBits (xs : List Int) : List Int × Int := if isBytes xs = false then ([], 1) else (xs.flatMap (bitsOf · 8), 0)
def bytesTo (xs : List Int) (j : Nat) : List Int := (List.range j).map fun i => numOf ((xs.drop (8 * i)).take 8)
def bitsToBytes (xs : List Int) : List Int × Int :=
  if isBits xs = false then ([], 1) else if xs.length % 8 ≠ 0 then ([], 5) else (bytesTo xs (xs.length / 8), 0)

theorem topBits_len (v : Int) (w j : Nat) : (topBits v w j).length = j := by simp [topBits]
theorem topBits_succ (v : Int) (w j : Nat) : topBits v w (j + 1) = topBits v w j ++ [bitAt v w j] := by simp [topBits, List.range_succ]
theorem bitsOf_len (v : Int) (w : Nat) : (bitsOf v w).length = w := topBits_len v w w
theorem numFrom_snoc (n b : Int) (xs : List Int) : numFrom n (xs ++ [b]) = 2 * numFrom n xs + b := by simp [numFrom, List.foldl_append]
theorem numOf_snoc (b : Int) (xs : List Int) : numOf (xs ++ [b]) = 2 * numOf xs + b := numFrom_snoc 0 b xs
theorem numFrom_bound (xs : List Int) (n : Int) (k : Nat) (h0 : 0 ≤ n) (h1 : n < 2 ^ k) (h : ∀ x ∈ xs, 0 ≤ x ∧ x ≤ 1) : 0 ≤ numFrom n xs ∧ numFrom n xs < 2 ^ (k + xs.length) := by
  induction xs generalizing n k with
  | nil => exact ⟨h0, h1⟩
  | cons b xs ih =>
    have hb := h b (by simp)
    have := ih (2 * n + b) (k + 1) (by omega) (by rw [Int.pow_succ]; omega) (fun x hx => h x (by simp [hx]))
    rw [List.length_cons, show k + (xs.length + 1) = k + 1 + xs.length from by omega]
    exact this
/-- A number of some bits lies below 2 to their number. -/
theorem numOf_bound (xs : List Int) (h : ∀ x ∈ xs, 0 ≤ x ∧ x ≤ 1) : 0 ≤ numOf xs ∧ numOf xs < 2 ^ xs.length := by
  have := numFrom_bound xs 0 0 (by omega) (by simp) h
  rwa [Nat.zero_add] at this
theorem flat_len (xs : List Int) : (xs.flatMap (bitsOf · 8)).length = 8 * xs.length := by
  induction xs with
  | nil => rfl
  | cons x xs ih => rw [List.flatMap_cons, List.length_append, bitsOf_len, ih, List.length_cons]; omega
theorem isBits_iff {xs : List Int} : isBits xs = true ↔ xs.length ≤ 8192 ∧ ∀ x ∈ xs, 0 ≤ x ∧ x ≤ 1 := by
  unfold isBits within
  rw [Bool.and_eq_true, allIn_iff, decide_eq_true_eq]
  constructor
  · rintro ⟨a, b⟩; exact ⟨by omega, b⟩
  · rintro ⟨a, b⟩; exact ⟨by omega, b⟩
theorem isBytes_iff {xs : List Int} : isBytes xs = true ↔ xs.length ≤ 1024 ∧ ∀ x ∈ xs, 0 ≤ x ∧ x ≤ 255 := by
  unfold isBytes within
  rw [Bool.and_eq_true, allIn_iff, decide_eq_true_eq]
  constructor
  · rintro ⟨a, b⟩; exact ⟨by omega, b⟩
  · rintro ⟨a, b⟩; exact ⟨by omega, b⟩
theorem appendNumber_len (xs : List Int) (v width : Int) : (appendNumber xs v width).1.length ≤ 8192 := by
  unfold appendNumber
  split
  · simp
  · split
    · simp
    · split
      · simp
      · simp only [List.length_append, bitsOf_len]; omega
theorem bytesToBits_len (xs : List Int) : (bytesToBits xs).1.length ≤ 8192 := by
  unfold bytesToBits
  split
  · simp
  · rename_i h
    have h := (isBytes_iff.1 (by simpa using h)).1
    simp only [flat_len]; omega
theorem bitsToBytes_len (xs : List Int) : (bitsToBytes xs).1.length ≤ 8192 := by
  unfold bitsToBytes
  split
  · simp
  · split
    · simp
    · rename_i h _
      have h := (isBits_iff.1 (by simpa using h)).1
      simp only [bytesTo, List.length_map, List.length_range]; omega
end

section

/-- The index ahead of number k, or -1. -/
def prev (ids : List Int) (k : Nat) : Int := if k = 0 then -1 else ids.getD (k - 1) 0
def stepOk (n : Int) (ids : List Int) (i : Nat) : Prop := prev ids i < ids.getD i 0 ∧ ids.getD i 0 < n
instance (n : Int) (ids : List Int) (i : Nat) : Decidable (stepOk n ids i) := by unfold stepOk; infer_instance
/-- Strictly increasing indices below n. -/
def rises (n : Int) (ids : List Int) : Bool := decide (∀ i, i < ids.length → stepOk n ids i)
theorem rises_yes {n : Int} {ids : List Int} (h : ∀ i, i < ids.length → stepOk n ids i) : rises n ids = true := decide_eq_true h
theorem rises_no {n : Int} {ids : List Int} {k : Nat} (hk : k < ids.length) (h : ¬ stepOk n ids k) : rises n ids = false := decide_eq_false fun hh => h (hh k hk)
theorem rises_iff {n : Int} {ids : List Int} : rises n ids = true ↔ ∀ i, i < ids.length → stepOk n ids i := by simp [rises]
theorem prev_zero (ids : List Int) : prev ids 0 = -1 := rfl
theorem prev_succ (ids : List Int) (k : Nat) : prev ids (k + 1) = ids.getD k 0 := by simp [prev]
theorem prev_low {n : Int} {ids : List Int} {k : Nat} (h : ∀ i, i < k → stepOk n ids i) : -1 ≤ prev ids k := by
  induction k with
  | zero => simp [prev]
  | succ k ih =>
    have h1 := ih fun i hi => h i (by omega)
    have h2 := (h k (by omega)).1
    rw [prev_succ]; omega
theorem prev_nonneg {n : Int} {ids : List Int} {k : Nat} (h : ∀ i, i < k + 1 → stepOk n ids i) : 0 ≤ prev ids (k + 1) := by
  have h1 := prev_low (k := k) fun i hi => h i (by omega)
  have h2 := (h k (by omega)).1
  rw [prev_succ]; omega
theorem stepOk_succ {n : Int} {ids : List Int} {k : Nat} (h : ∀ i, i < k → stepOk n ids i) (hk : stepOk n ids k) : ∀ i, i < k + 1 → stepOk n ids i := fun i hi => by
  rcases Nat.lt_succ_iff_lt_or_eq.1 hi with h1 | rfl
  · exact h i h1
  · exact hk

def flips (xs ids : List Int) : List Int := ids.foldl (fun ys i => ys.set i.toNat (1 - ys.getD i.toNat 0)) xs
theorem flips_snoc (xs ids : List Int) (i : Int) : flips xs (ids ++ [i]) = (flips xs ids).set i.toNat (1 - (flips xs ids).getD i.toNat 0) := by simp [flips, List.foldl_append]
theorem flips_len (xs ids : List Int) : (flips xs ids).length = xs.length := by
  unfold flips
  induction ids generalizing xs with
  | nil => rfl
  | cons i ids ih => rw [List.foldl_cons, ih]; simp
theorem getD_mem {xs : List Int} {k : Nat} (h : k < xs.length) : xs.getD k 0 ∈ xs := by
  rw [List.getD, List.getElem?_eq_getElem h]; exact List.getElem_mem h
theorem flips_bits (xs ids : List Int) (h : ∀ x ∈ xs, 0 ≤ x ∧ x ≤ 1) : ∀ x ∈ flips xs ids, 0 ≤ x ∧ x ≤ 1 := by
  unfold flips
  induction ids generalizing xs with
  | nil => exact h
  | cons i ids ih =>
    rw [List.foldl_cons]
    refine ih _ fun x hx => ?_
    rcases List.mem_or_eq_of_mem_set hx with h1 | rfl
    · exact h x h1
    · by_cases hi : i.toNat < xs.length
      · have := h _ (getD_mem hi); omega
      · have : xs.getD i.toNat 0 = 0 := by simp [List.getD, List.getElem?_eq_none (Nat.le_of_not_lt hi)]
        omega
def flipBits (xs ids : List Int) : List Int × Int := if isBits xs = false then ([], 1) else if rises xs.length ids = false then ([], 2) else (flips xs ids, 0)
theorem flipBits_len (xs ids : List Int) : (flipBits xs ids).1.length ≤ 8192 := by
  unfold flipBits
  split
  · simp
  · split
    · simp
    · rename_i h _
      have h := (isBits_iff.1 (by simpa using h)).1
      simp only [flips_len]; omega
theorem fb_1 {xs ids : List Int} (h : isBits xs = false) : flipBits xs ids = ([], 1) := by simp [flipBits, h]
theorem fb_2 {xs ids : List Int} (h : isBits xs = true) (h2 : rises xs.length ids = false) : flipBits xs ids = ([], 2) := by simp [flipBits, h, h2]
theorem fb_0 {xs ids : List Int} (h : isBits xs = true) (h2 : rises xs.length ids = true) : flipBits xs ids = (flips xs ids, 0) := by simp [flipBits, h, h2]

/-- The indices below k at which two lists differ. -/
def diffTo (xs ys : List Int) (k : Nat) : List Int := ((List.range k).filter fun i => xs.getD i 0 != ys.getD i 0).map fun (i : Nat) => (i : Int)
theorem diffTo_ne {xs ys : List Int} {k : Nat} (h : (xs.getD k 0 != ys.getD k 0) = true) : diffTo xs ys (k + 1) = diffTo xs ys k ++ [(k : Int)] := by
  simp only [diffTo, List.range_succ, List.filter_append, List.filter_cons, h, List.filter_nil, List.map_append]; rfl
theorem diffTo_eq {xs ys : List Int} {k : Nat} (h : (xs.getD k 0 != ys.getD k 0) = false) : diffTo xs ys (k + 1) = diffTo xs ys k := by
  simp only [diffTo, List.range_succ, List.filter_append, List.filter_cons, h, List.filter_nil, List.map_append]; simp
theorem diffTo_len (xs ys : List Int) (k : Nat) : (diffTo xs ys k).length ≤ k := by
  unfold diffTo
  rw [List.length_map]
  exact Nat.le_trans (List.length_filter_le _ _) (by simp)
def differingBits (xs ys : List Int) : List Int × Int := if isBits xs = false ∨ isBits ys = false then ([], 1) else if xs.length ≠ ys.length then ([], 5) else (diffTo xs ys xs.length, 0)
theorem differingBits_len (xs ys : List Int) : (differingBits xs ys).1.length ≤ 8192 := by
  unfold differingBits
  split
  · simp
  · split
    · simp
    · rename_i h _
      have h := (isBits_iff.1 (by simpa using (not_or.1 h).1)).1
      exact Nat.le_trans (diffTo_len _ _ _) h
theorem db_1a {xs ys : List Int} (h : isBits xs = false) : differingBits xs ys = ([], 1) := by simp [differingBits, h]
theorem db_1b {xs ys : List Int} (h : isBits ys = false) : differingBits xs ys = ([], 1) := by simp [differingBits, h]
theorem db_5 {xs ys : List Int} (h : isBits xs = true) (h' : isBits ys = true) (h2 : xs.length ≠ ys.length) : differingBits xs ys = ([], 5) := by simp [differingBits, h, h', h2]
theorem db_0 {xs ys : List Int} (h : isBits xs = true) (h' : isBits ys = true) (h2 : xs.length = ys.length) : differingBits xs ys = (diffTo xs ys xs.length, 0) := by simp [differingBits, h, h', h2]
end
end Go.Proofs.Ytbdfnkhmnglpbaa
