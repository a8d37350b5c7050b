/-
  Contracts of the program's, the model's and the laws' functions, and plain mathematics, on which a proof of this claim stands (part A).
-/
import Derived.WalkKit
import Derived.Lib.Hide
import Derived.Deep.Draws
import Derived.Laws.AppendOwnNone
import Derived.Laws.CopyOwn
import Derived.Laws.BytesArg
import Derived.Laws.Rows
import Derived.Laws.Tables
import Derived.Test.YthihjhidjnadaaaGreatRows
import Derived.BigQuiet
import Derived.BigRegion
import Derived.Lib.SmallJoins
import Derived.ChangeArms
import Derived.Deep.QuietTactic
import Derived.Laws.StructEq
import Derived.Deep.RegionHeld3
import Derived.Deep.DeepCutAuto
import Derived.Deep.Cut
import Derived.Deep.Slices
import Derived.ChangeSlices
import Derived.Recover
import Derived.Defers
import Derived.Laws.EntriesVeiled
import Derived.Lib.AppendIntMem
import Derived.Lib.ItoaLen
import Derived.Deep.RegionWith
import Derived.Handy
import Derived.OrdersHeld
namespace Go.Proofs.YthihjhidjnadaaaGreat
theorem pa {α : Type} {xs : List α} {i : Nat} (h : i < xs.toArray.size) : xs.toArray[i] = xs[i]'(by simpa using h) := List.getElem_toArray h
theorem pb {α : Type} {a : α} {l : List α} {i : Nat} {h : i + 1 < (a :: l).length} : (a :: l)[i + 1] = l[i]'(Nat.lt_of_succ_lt_succ h) := List.getElem_cons_succ ..
theorem pc {α : Type} {a : α} {l : List α} {h : 0 < (a :: l).length} : (a :: l)[0] = a := List.getElem_cons_zero ..
theorem pe {α : Type} (l : List α) (i : Nat) (a : α) : l.toArray.setIfInBounds i a = (l.set i a).toArray := List.setIfInBounds_toArray l i a
theorem pf {α : Type} {x : α} {xs : List α} {a : α} : (x :: xs).set 0 a = a :: xs := List.set_cons_zero
theorem pg {α : Type} {x : α} {xs : List α} {i : Nat} {a : α} : (x :: xs).set (i + 1) a = x :: xs.set i a := List.set_cons_succ
theorem tk {P : Program} {md : Region.Mode} {ops : Array Oper} {Q : Exit → Act → World → Prop} {S : World → Prop} {i : Nat} {oi : Oper} {v : Value} {fuel : Nat} {listed : Array Bool} {a : Act} {w : World} (hi : ops[i]? = some oi) (hy : YieldsIf P ops S oi v a) (hS : S w) (h : wpAnyH P md ops Q S fuel (listed.setIfInBounds i true) (a.put oi.dst v) w)
    (hs : Region.noSelect ops = true := by kernel_rfl) (hf : Region.free md ops listed i = true := by kernel_rfl) (hr : (Region.ready md ops listed).contains i = true := by kernel_rfl) (hQ : ∀ c a w, Q (.panic c) (a.put oi.dst v) w → Q (.panic c) a w := by exact fun _ _ _ h => h) : wpAnyH P md ops Q S (fuel + 1) listed a w :=
  wpAnyH_take hi hs hf hr hQ hy hS h
section
section
open Go.RowKit
structure Rd (w : World) (ao : Option Addr) (n : Nat) (xs : List Int) : Prop where
  len : xs.length = n
  here : 0 < n → ∃ b off, ao = some ⟨b, off, none⟩ ∧ ∀ i, i < n → w.cell? ⟨b, off + i, none⟩ = some (.int .i64 (xs.getD i 0))
def Own (E : Nat) (w : World) (base : Nat) (v : Value) (xs : List Int) : Prop := w.ownsRow base E 1 v xs.length (xs.map (Value.int .i64))
def Makes (E : Nat) (w : World) (xs : List Int) (e : Ending) (w' : World) : Prop :=
  ∃ v, e = .returned v ∧ Own E w' w.heap.size v xs ∧ Below w.heap.size w w'
section
variable {w w' : World} {E base n : Nat} {ao : Option Addr} {v : Value} {xs : List Int}
theorem Rd.nil_ : Rd w ao 0 [] := ⟨rfl, fun h => absurd h (by omega)⟩
theorem Rd.keep (h : Rd w ao n xs) (hk : ∀ b o, b < w.heap.size → w'.cell? ⟨b, o, none⟩ = w.cell? ⟨b, o, none⟩) : Rd w' ao n xs :=
  ⟨h.len, fun hn => by
    obtain ⟨b, off, e, hc⟩ := h.here hn
    exact ⟨b, off, e, fun i hi => (hk _ _ (World.block_lt_of_cell? w _ (hc i hi))).trans (hc i hi)⟩⟩
theorem Rd.below (h : Rd w ao n xs) (hb : Below w.heap.size w w') : Rd w' ao n xs := h.keep fun b o hlt => hb.cell (p := ⟨b, o, none⟩) hlt
theorem Rd.slice (h : Rd w ao n xs) {a k : Nat} (hak : a + k ≤ n) : Rd w (Option.map (fun x => x.add a) ao) k ((xs.drop a).take k) := by
  have hl := h.len
  refine ⟨by rw [List.length_take, List.length_drop]; omega, fun hk => ?_⟩
  obtain ⟨b, off, rfl, hc⟩ := h.here (by omega)
  refine ⟨b, off + a, by simp [Addr.add_lit], fun i hi => ?_⟩
  rw [Nat.add_assoc, hc (a + i) (by omega)]
  simp [List.getD, hi, List.getElem?_drop]
theorem Rd.block (h : Rd w ao n xs) (hn : 0 < n) : ∃ b off, ao = some ⟨b, off, none⟩ ∧ b < w.heap.size := by
  obtain ⟨b, off, e, hc⟩ := h.here hn
  exact ⟨b, off, e, World.block_lt_of_cell? w _ (hc 0 hn)⟩
theorem Own.below (h : Own E w base v xs) (hb : Below w.heap.size w w') : Own E w' base v xs := by
  obtain ⟨h1, h2⟩ := h
  refine ⟨h1, ?_⟩
  rcases h2 with h2 | ⟨g, cap, cur, e, hg, hh, r⟩
  · exact .inl h2
  · exact .inr ⟨g, cap, cur, e, hg, by rw [hb.block g (Array.getElem?_eq_some_iff.1 hh).1]; exact hh, r⟩
theorem Own.more (h : Own E w base v xs) {base' : Nat} (hb : base' ≤ base) : Own E w base' v xs := by
  obtain ⟨h1, h2⟩ := h
  refine ⟨h1, ?_⟩
  rcases h2 with h2 | ⟨g, cap, cur, e, hg, r⟩
  · exact .inl h2
  · exact .inr ⟨g, cap, cur, e, Nat.le_trans hb hg, r⟩
theorem Own.form (h : Own E w base v xs) : ∃ ao cap, v = .slice ao xs.length cap ∧ Rd w ao xs.length xs ∧ xs.length ≤ cap ∧ cap ≤ maxLen ∧ (v = .slice none 0 0 ∨ ∃ g, ao = some ⟨g, 0, none⟩ ∧ base ≤ g ∧ g < w.heap.size) := by
  have h0 := h
  obtain ⟨h1, h2⟩ := h
  rcases h2 with ⟨rfl, h2⟩ | ⟨g, cap, cur, rfl, hg, hh, hn, hcap, hsz, htake⟩
  · have : xs = [] := List.length_eq_zero_iff.1 h2
    subst this
    exact ⟨none, 0, rfl, Rd.nil_, Nat.le_refl _, by unfold maxLen; omega, .inl rfl⟩
  · refine ⟨_, cap, rfl, ⟨rfl, fun _ => ⟨g, 0, rfl, fun i hi => ?_⟩⟩, hn, hcap, .inr ⟨g, rfl, hg, (Array.getElem?_eq_some_iff.1 hh).1⟩⟩
    unfold Own at h0
    rw [Nat.zero_add, World.ownsRow.cellAt h0 i (by omega)]
    simp [List.getD, List.getElem?_eq_getElem hi]
theorem Own.cap {cap : Nat} (h : Own E w base (.slice ao n cap) xs) : n ≤ cap ∧ cap ≤ 9223372036854775807 := by
  obtain ⟨ao', cap', e, -, h1, h2, -⟩ := h.form
  cases e
  unfold maxLen at h2
  exact ⟨h1, by omega⟩
theorem Own.of_alloc_nil (hE : base ≤ w.heap.size) : Own E (w.alloc (.cells #[] E)) base (.slice (some ⟨w.heap.size, 0, none⟩) 0 0) [] :=
  World.ownsRow_made w #[] 0 hE (by unfold maxLen; omega) rfl
theorem Own.nil_ : Own E w base (.slice none 0 0) [] := World.ownsRow_nil _ _ _ _
theorem Own.get (h : Own E w base v xs) : ∃ ao cap, v = .slice ao xs.length cap ∧ Own E w base (.slice ao xs.length cap) xs ∧ Rd w ao xs.length xs := by
  obtain ⟨ao, cap, rfl, r, -, -, -⟩ := h.form
  exact ⟨ao, cap, rfl, h, r⟩
theorem Makes.get {e : Ending} (h : Makes E w xs e w') : ∃ ao cap, e = .returned (.slice ao xs.length cap) ∧ Own E w' w.heap.size (.slice ao xs.length cap) xs ∧ Rd w' ao xs.length xs ∧ Below w.heap.size w w' := by
  obtain ⟨v, rfl, o, b⟩ := h
  obtain ⟨ao, cap, rfl, o, r⟩ := o.get
  exact ⟨ao, cap, rfl, o, r, b⟩
theorem below_two {a : World} (h : Below a.heap.size a w) (k : Below w.heap.size w w') : Below a.heap.size a w' := h.trans (k.mono h.size)
theorem Rd.only {g : Option Nat} (h : Rd w ao n xs) (ho : w.grownBy w' g) (hg : ∀ b off, ao = some ⟨b, off, none⟩ → g ≠ some b) : Rd w' ao n xs :=
  ⟨h.len, fun hn => by
    obtain ⟨b, off, e, hc⟩ := h.here hn
    exact ⟨b, off, e, fun i hi => ho.cell (hc i hi) (fun h => hg b off e h.symm)⟩⟩
theorem Own.only {g : Option Nat} (h : Own E w base v xs) (ho : w.grownBy w' g) (hg : v.ownBlock = none ∨ v.ownBlock ≠ g) : Own E w' base v xs := World.ownsRow.kept h ho hg
theorem Own.block (h : Own E w base v xs) : ∀ k, v.ownBlock = some k → base ≤ k ∧ k < w.heap.size := World.ownsRow.lt h
theorem below_drewN' {B : Nat} {a : World} (h : Below B a w) (k : Nat) : Below B a (w.drewN k) := ⟨h.os, h.tape, h.output, h.size, h.block⟩
end
theorem grown_trans {a b c : World} {row : Option Nat} (h : a.grownBy b row) (k : b.grownBy c row) : a.grownBy c row :=
  ⟨k.os.trans h.os, k.tape.trans h.tape, k.output.trans h.output, Nat.le_trans h.size k.size, fun i hi hne => (k.block i (Nat.lt_of_lt_of_le hi h.size) hne).trans (h.block i hi hne)⟩
theorem take_succ' (zs : List Int) (k : Nat) (hk : k < zs.length) : zs.take (k + 1) = zs.take k ++ [zs.getD k 0] := by
  rw [List.take_add_one, List.getElem?_eq_getElem hk]; simp [List.getD, List.getElem?_eq_getElem hk]
theorem ret_int {k : IntKind} {a b : Int} (h : a = b) : Ending.returned (.int k a) = .returned (.int k b) := by rw [h]
theorem ret_bool {a b : Bool} (h : a = b) : Ending.returned (.bool a) = .returned (.bool b) := by rw [h]
end
section
def inR (hi x : Int) : Bool := decide (0 ≤ x) && decide (x ≤ hi)
theorem inR_true {hi x : Int} (h0 : 0 ≤ x) (h1 : x ≤ hi) : inR hi x = true := by simp [inR, h0, h1]
theorem inR_low {hi x : Int} (h0 : x < 0) : inR hi x = false := by simp only [inR, Bool.and_eq_false_iff, decide_eq_false_iff_not]; left; omega
theorem inR_high {hi x : Int} (h0 : hi < x) : inR hi x = false := by simp only [inR, Bool.and_eq_false_iff, decide_eq_false_iff_not]; right; omega
theorem getD_mem' {xs : List Int} {k : Nat} (h : k < xs.length) : xs.getD k 0 ∈ xs := by
  rw [List.getD, List.getElem?_eq_getElem h]; exact List.getElem_mem h
def fillTo (xs : List Int) (k : Nat) : List Int := xs.take k ++ List.replicate (xs.length - k) 0
theorem fillTo_len (xs : List Int) (k : Nat) (hk : k ≤ xs.length) : (fillTo xs k).length = xs.length := by
  unfold fillTo; rw [List.length_append, List.length_take, List.length_replicate]; omega
theorem fillTo_zero (xs : List Int) : fillTo xs 0 = List.replicate xs.length 0 := by simp [fillTo]
theorem fillTo_all (xs : List Int) : fillTo xs xs.length = xs := by simp [fillTo]
theorem fillTo_succ (xs : List Int) (k : Nat) (hk : k < xs.length) : (fillTo xs k).set k (xs.getD k 0) = fillTo xs (k + 1) := by
  have hm : min k xs.length = k := by omega
  unfold fillTo
  rw [take_succ' xs k hk, List.set_append_right _ _ (by rw [List.length_take]; omega)]
  rw [show xs.length - k = (xs.length - (k + 1)) + 1 from by omega, List.replicate_succ, List.length_take, hm, Nat.sub_self, List.set_cons_zero]
  simp
def marks (q : Int) : Nat → List Int
  | 0 => []
  | n + 1 => q :: marks (q + 1) n
theorem marks_len (q : Int) (n : Nat) : (marks q n).length = n := by
  induction n generalizing q with
  | zero => rfl
  | succ n ih => simp [marks, ih]
theorem marks_succ (q : Int) (n : Nat) : marks q (n + 1) = marks q n ++ [q + n] := by
  induction n generalizing q with
  | zero => simp [marks]
  | succ n ih => rw [marks, ih (q + 1)]; simp only [marks, List.cons_append, List.cons.injEq, true_and]; congr 2; omega
def markTo (q : Int) (xs : List Int) (k : Nat) : List Int := marks q k ++ xs.drop k
theorem markTo_len (q : Int) (xs : List Int) (k : Nat) (hk : k ≤ xs.length) : (markTo q xs k).length = xs.length := by
  unfold markTo; rw [List.length_append, marks_len, List.length_drop]; omega
theorem markTo_zero (q : Int) (xs : List Int) : markTo q xs 0 = xs := by simp [markTo, marks]
theorem markTo_all (q : Int) (xs : List Int) : markTo q xs xs.length = marks q xs.length := by simp [markTo]
theorem markTo_succ (q : Int) (xs : List Int) (k : Nat) (hk : k < xs.length) : (markTo q xs k).set k (q + k) = markTo q xs (k + 1) := by
  unfold markTo
  rw [List.set_append_right _ _ (by rw [marks_len]; exact Nat.le_refl _), marks_len, Nat.sub_self, marks_succ, List.drop_eq_getElem_cons hk, List.set_cons_zero]
  simp
theorem list_eq_of_take {xs ys : List Int} {n : Nat} (hx : xs.length = n) (hy : ys.length = n) (h : xs.take n = ys.take n) : xs = ys := by
  rwa [List.take_of_length_le (by omega), List.take_of_length_le (by omega)] at h
theorem ne_of_getD {xs ys : List Int} {k : Nat} (h : xs.getD k 0 ≠ ys.getD k 0) : decide (xs = ys) = false := by
  rw [decide_eq_false_iff_not]; intro e; exact h (by rw [e])
theorem ne_of_len {xs ys : List Int} (h : xs.length ≠ ys.length) : decide (xs = ys) = false := by
  rw [decide_eq_false_iff_not]; intro e; exact h (by rw [e])
theorem take_eq_succ {xs ys : List Int} {k : Nat} (hx : k < xs.length) (hy : k < ys.length) (h : xs.take k = ys.take k) (he : xs.getD k 0 = ys.getD k 0) : xs.take (k + 1) = ys.take (k + 1) := by
  rw [take_succ' xs k hx, take_succ' ys k hy, h, he]
theorem map_set (xs : List Int) (k : Nat) (v : Int) : (xs.map (Value.int .i64)).set k (.int .i64 v) = (xs.set k v).map (Value.int .i64) := (List.map_set).symm
end
section
open Go.RowKit
section
variable {E : Nat} {w0 w w' : World} {L : List (Value × List Int)} {v : Value} {xs : List Int}
end
end
section
open Go.RowKit
theorem new_cell {w : World} {b : Nat} (hb : b = w.heap.size) {v : Value} {t : TypeId} : (w.alloc (.cells #[v] t)).cell? ⟨b, 0, none⟩ = some v := by
  subst hb
  rw [World.cell?_alloc_at _ _ _ _ rfl]; rfl
section
variable {P : Program} {E T : Nat} (w : World) {ops : Array Oper} {rest : List Oper} {o : Oper} {a : Act} {Q : Exit → Act → World → Prop}
end
end
section
open Go.RowKit
section
variable {k : IntKind} {E base : Nat} {w w' : World} {v : Value} {xs : List Int}
end
section
variable {P : Program} {E T : Nat} (w : World) {ops : Array Oper} {rest : List Oper} {o : Oper} {a : Act} {Q : Exit → Act → World → Prop}
end
def nums (s : ByteArray) : List Int := s.data.toList.map fun c => (c.toNat : Int)
theorem nums_len (s : ByteArray) : (nums s).length = s.size := by
  unfold nums
  rw [List.length_map, Array.length_toList]; rfl
theorem nums_getD (s : ByteArray) (k : Nat) (h : k < s.size) : (nums s).getD k 0 = ((s[k]'h).toNat : Int) := by
  have h' : k < s.data.size := h
  unfold nums
  rw [List.getD, List.getElem?_map, Array.getElem?_toList, Array.getElem?_eq_getElem h']
  rfl
end
section
theorem and_one (n : Int) : bits .and .i64 n 1 = n % 2 := by
  have h1 : (BitVec.ofInt 64 1).toNat = 2 ^ 1 - 1 := by decide
  have key : (BitVec.ofInt 64 n &&& BitVec.ofInt 64 1).toNat = (n % ((2 ^ 64 : Nat) : Int)).toNat % 2 ^ 1 := by
    rw [BitVec.toNat_and, BitVec.toNat_ofInt, h1, Nat.and_two_pow_sub_one_eq_mod]
  show IntKind.i64.wrap ((BitVec.ofInt 64 n &&& BitVec.ofInt 64 1).toNat : Nat) = n % 2
  rw [key, IntKind.wrap_i64]
  omega
theorem ofInt_nat (a : Nat) (h : a < 9223372036854775808) : (BitVec.ofInt 64 (a : Int)).toNat = a := by
  rw [BitVec.toNat_ofInt]; omega
theorem and_nat (a b : Nat) (ha : a < 9223372036854775808) (hb : b < 9223372036854775808) : bits .and .i64 (a : Int) (b : Int) = ((a &&& b : Nat) : Int) := by
  show IntKind.i64.wrap ((BitVec.ofInt 64 (a : Int) &&& BitVec.ofInt 64 (b : Int)).toNat : Nat) = _
  rw [BitVec.toNat_and, ofInt_nat a ha, ofInt_nat b hb, IntKind.wrap_i64]
  have : a &&& b ≤ a := Nat.and_le_left
  omega
theorem or_nat (a b : Nat) (ha : a < 9223372036854775808) (hb : b < 9223372036854775808) : bits .or .i64 (a : Int) (b : Int) = ((a ||| b : Nat) : Int) := by
  show IntKind.i64.wrap ((BitVec.ofInt 64 (a : Int) ||| BitVec.ofInt 64 (b : Int)).toNat : Nat) = _
  rw [BitVec.toNat_or, ofInt_nat a ha, ofInt_nat b hb, IntKind.wrap_i64]
  have : a ||| b < 2 ^ 63 := Nat.or_lt_two_pow (by omega) (by omega)
  omega
theorem xor_nat (a b : Nat) (ha : a < 9223372036854775808) (hb : b < 9223372036854775808) : bits .xor .i64 (a : Int) (b : Int) = ((a ^^^ b : Nat) : Int) := by
  show IntKind.i64.wrap ((BitVec.ofInt 64 (a : Int) ^^^ BitVec.ofInt 64 (b : Int)).toNat : Nat) = _
  rw [BitVec.toNat_xor, ofInt_nat a ha, ofInt_nat b hb, IntKind.wrap_i64]
  have : a ^^^ b < 2 ^ 63 := Nat.xor_lt_two_pow (by omega) (by omega)
  omega
theorem pow40 (k : Nat) (h : k ≤ 40) : (1 : Int) ≤ 2 ^ k ∧ (2 : Int) ^ k ≤ 1099511627776 := by
  have h1 : (2 : Nat) ^ k ≤ 2 ^ 40 := Nat.pow_le_pow_right (by omega) h
  have h2 : 1 ≤ (2 : Nat) ^ k := Nat.one_le_two_pow
  have e : ((2 ^ k : Nat) : Int) = (2 : Int) ^ k := by simp
  omega
end
section
end
section
def prev (ids : List Int) (k : Nat) : Int := if k = 0 then -1 else ids.getD (k - 1) 0
def stepOk (n : Int) (ids : List Int) (i : Nat) : Prop := prev ids i < ids.getD i 0 ∧ ids.getD i 0 < n
instance (n : Int) (ids : List Int) (i : Nat) : Decidable (stepOk n ids i) := by unfold stepOk; infer_instance
def rises (n : Int) (ids : List Int) : Bool := decide (∀ i, i < ids.length → stepOk n ids i)
theorem rises_yes {n : Int} {ids : List Int} (h : ∀ i, i < ids.length → stepOk n ids i) : rises n ids = true := decide_eq_true h
theorem rises_no {n : Int} {ids : List Int} {k : Nat} (hk : k < ids.length) (h : ¬ stepOk n ids k) : rises n ids = false := decide_eq_false fun hh => h (hh k hk)
theorem prev_zero (ids : List Int) : prev ids 0 = -1 := rfl
theorem prev_succ (ids : List Int) (k : Nat) : prev ids (k + 1) = ids.getD k 0 := by simp [prev]
theorem prev_low {n : Int} {ids : List Int} {k : Nat} (h : ∀ i, i < k → stepOk n ids i) : -1 ≤ prev ids k := by
  induction k with
  | zero => simp [prev]
  | succ k ih =>
    have h1 := ih fun i hi => h i (by omega)
    have h2 := (h k (by omega)).1
    rw [prev_succ]; omega
theorem stepOk_succ {n : Int} {ids : List Int} {k : Nat} (h : ∀ i, i < k → stepOk n ids i) (hk : stepOk n ids k) : ∀ i, i < k + 1 → stepOk n ids i := fun i hi => by
  rcases Nat.lt_succ_iff_lt_or_eq.1 hi with h1 | rfl
  · exact h i h1
  · exact hk
end
end

section
section
def inRange (lo hi x : Int) : Bool := decide (lo ≤ x) && decide (x ≤ hi)
def isState (t m r s k : Int) : Bool := inRange 0 65535 t && inRange 0 15 m && inRange 0 15 r && inRange 0 255 s && inRange 0 4294967295 k
theorem isState_iff {t m r s k : Int} : isState t m r s k = true ↔ (0 ≤ t ∧ t ≤ 65535) ∧ (0 ≤ m ∧ m ≤ 15) ∧ (0 ≤ r ∧ r ≤ 15) ∧ (0 ≤ s ∧ s ≤ 255) ∧ 0 ≤ k ∧ k ≤ 4294967295 := by
  simp only [isState, inRange, Bool.and_eq_true, decide_eq_true_eq]
  constructor
  · rintro ⟨⟨⟨⟨a, b⟩, c⟩, d⟩, e⟩; exact ⟨a, b, c, d, e⟩
  · rintro ⟨a, b, c, d, e⟩; exact ⟨⟨⟨⟨a, b⟩, c⟩, d⟩, e⟩
def stepRS (slots rounds r s : Int) : Int × Int := if s + 1 = slots then ((r + 1) % rounds, 0) else (r, s + 1)
end
section
end
end

section
section
def isNode (k : Int) : Bool := inR 31 k
def setN (m k : Nat) (b : Bool) : Nat := if m.testBit k = b then m else m ^^^ 2 ^ k
theorem setN_bit (m k j : Nat) (b : Bool) : (setN m k b).testBit j = if j = k then b else m.testBit j := by
  unfold setN
  split
  · rename_i h
    split
    · rename_i e; rw [e, h]
    · rfl
  · rename_i h
    rw [Nat.testBit_xor, Nat.testBit_two_pow]
    by_cases e : j = k
    · subst e
      cases hb : m.testBit j <;> cases b <;> simp_all
    · have e' : ¬ k = j := fun h => e h.symm
      simp [e, e']
theorem pow_lt32 {k : Nat} (hk : k < 32) : 2 ^ k < 2 ^ 32 := Nat.pow_lt_pow_right (by omega) hk
theorem setN_lt {m k : Nat} {b : Bool} (h : m < 4294967296) (hk : k < 32) : setN m k b < 4294967296 := by
  unfold setN
  split
  · exact h
  · exact Nat.xor_lt_two_pow (n := 32) (by omega) (pow_lt32 hk)
theorem setN_true (m k : Nat) : setN m k true = m ||| 2 ^ k := by
  apply Nat.eq_of_testBit_eq
  intro j
  rw [setN_bit, Nat.testBit_or, Nat.testBit_two_pow]
  by_cases e : j = k
  · simp [e]
  · have e' : ¬ k = j := fun h => e h.symm
    simp [e, e']
theorem bit_div (m k : Nat) : decide ((m : Int) / 2 ^ k % 2 = 1) = m.testBit k := by
  have e : (m : Int) / 2 ^ k % 2 = ((m / 2 ^ k % 2 : Nat) : Int) := by simp
  rw [e, Nat.testBit_eq_decide_div_mod_eq]
  by_cases h : m / 2 ^ k % 2 = 1
  · rw [h]; rfl
  · rw [decide_eq_false h, decide_eq_false (by omega)]
theorem bit_and (m k : Nat) : (bits .and .i64 ((m : Int) / 2 ^ k) 1 == 1) = m.testBit k := by
  rw [and_one, ← bit_div]
  by_cases h : (m : Int) / 2 ^ k % 2 = 1 <;> simp [h]
theorem pow_cast (k : Nat) : ((2 ^ k : Nat) : Int) = (2 : Int) ^ k := by simp
theorem or_set (m k : Nat) (hm : m < 4294967296) (hk : k < 32) : bits .or .i64 (m : Int) (2 ^ k) = ((setN m k true : Nat) : Int) := by
  have := pow_lt32 hk
  rw [← pow_cast, or_nat _ _ (by omega) (by omega), setN_true]
theorem xor_set (m k : Nat) (hm : m < 4294967296) (hk : k < 32) : bits .xor .i64 (m : Int) (2 ^ k) = ((m ^^^ 2 ^ k : Nat) : Int) := by
  have := pow_lt32 hk
  rw [← pow_cast, xor_nat _ _ (by omega) (by omega)]
end
section
open Go.RowKit
section
variable {T b : Nat} {w w' : World} {xs : List Int}
end
end
section
end
end

section
def kindOk (a : Int) : Bool := inRange 0 3 a
def hasState (a : Int) : Bool := kindOk a && decide (a ≠ 0)
def hasData (a : Int) : Bool := decide (a = 0 ∨ a = 2)
def sizeOk (a n : Int) : Bool := if a = 0 then inRange 0 32 n else if a = 2 then inRange 1 32 n else decide (n = 0)
def bodySize (a n : Int) : Int × Int :=
  if kindOk a = false then (0, 1) else if sizeOk a n = false then (0, 2) else (1 + (if hasState a = true then 8 else 0) + (if hasData a = true then 1 + n else 0), 0)
theorem inRange_iff {lo hi x : Int} : inRange lo hi x = true ↔ lo ≤ x ∧ x ≤ hi := by simp [inRange]
theorem kindOk_four {a : Int} (h : kindOk a = true) : a = 0 ∨ a = 1 ∨ a = 2 ∨ a = 3 := by
  have := inRange_iff.1 h; omega
theorem sizeOk_le {a n : Int} (h : sizeOk a n = true) : 0 ≤ n ∧ n ≤ 32 := by
  unfold sizeOk at h
  split at h
  · exact inRange_iff.1 h
  · split at h
    · have := inRange_iff.1 h; omega
    · have := of_decide_eq_true h; omega
end

section
section
open Go.RowKit
theorem info64 : (Tryz.prog.info? 2).map (fun i => (i.zero, i.size, i.bytes)) = some (some (.int .i64 0), 1, 8) := by kernel_rfl
theorem l01In_yes (x lo hi : Int) (w : World) (h0 : lo ≤ x) (h1 : x ≤ hi) : Calls Tryz.prog 180 #[.int .i64 x, .int .i64 lo, .int .i64 hi] w fun e w' => e = .returned (.bool true) ∧ w = w' := by
  go_enter Tryz.func180, Tryz.ntmps180
  go_wp2
  go_ret
  exact ⟨rfl, rfl⟩
theorem l01In_no (x lo hi : Int) (w : World) (h : x < lo ∨ hi < x) : Calls Tryz.prog 180 #[.int .i64 x, .int .i64 lo, .int .i64 hi] w fun e w' => e = .returned (.bool false) ∧ w = w' := by
  by_cases h0 : x < lo
  · go_enter Tryz.func180, Tryz.ntmps180
    go_wp2
    go_ret
    exact ⟨rfl, rfl⟩
  · have h1 : hi < x := by omega
    clear h
    go_enter Tryz.func180, Tryz.ntmps180
    go_wp2
    go_ret
    exact ⟨ret_bool (decide_eq_false (by omega)), rfl⟩
theorem toInt_any (ao : Option Addr) (n cap : Nat) (xs : List Int) (w : World) (hr : Rd w ao n xs) (hn : n ≤ 1048576) :
    Calls Tryz.prog 187 #[.slice ao n cap] w (Makes 2 w xs) := by
  obtain ⟨i0, hi, hz0, hz1, hz2⟩ := info_parts info64
  obtain ⟨hlen, hat⟩ := hr
  have HL := Lib.hid hlen; clear hlen
  have HA := Lib.hid hat; clear hat
  go_enter Tryz.func187, Tryz.ntmps187
  go_wp2_with (at_make; refine wpList_make_full _ rfl _ _ 53 rfl w.heap.size 2 i0 (.int .i64 0) 1 Tryz.underlying53 hi hz0 hz1 _ _ _ _ n rfl rfl rfl rfl (by rw [hz2]; omega) (by unfold maxLen; omega) (Nat.le_refl _) ?_; intro w1 hown hgr)
  have hown1 : w1.ownsRow w.heap.size 2 1 (.slice (some ⟨w.heap.size, 0, none⟩) n n) n ((fillTo xs 0).map (Value.int .i64)) := by
    have e : (madeCells (Value.int .i64 0).cells (n * 1)).toList = (fillTo xs 0).map (Value.int .i64) := by
      rw [fillTo_zero, HL.out, Nat.mul_one, show (Value.int .i64 0).cells = #[Value.int .i64 0] from rfl, toList_madeCells_one, List.map_replicate]
    rw [← e]; exact hown
  have hb1 : Below w.heap.size w w1 := (Below.refl _ _).grown hgr (Nat.le_refl _) (fun k h => by cases h)
  clear hown hgr
  go_loopw [4] (fun i wr => ∃ k : Nat, k ≤ n ∧ i = .int .i64 k ∧ wr.ownsRow w.heap.size 2 1 (.slice (some ⟨w.heap.size, 0, none⟩) n n) n ((fillTo xs k).map (Value.int .i64)) ∧ Below w.heap.size w wr) (fun i _ => n - (intOf i).toNat)
  case atStart => exact ⟨0, Nat.zero_le _, rfl, hown1, hb1⟩
  case round =>
    clear hown1 hb1
    obtain ⟨k, hk, rfl, hown, hb⟩ := hrel
    by_cases hlt : k < n
    · have hkx : k < xs.length := by rw [HL.out]; exact hlt
      obtain ⟨b, off, rfl, hc⟩ := HA.out (by omega)
      have hck0 := hc k hlt
      have hblt : b < w.heap.size := World.block_lt_of_cell? w _ hck0
      have hck := (hb.cell (p := ⟨b, off + k, none⟩) hblt).trans hck0
      clear hc HA hck0
      have hdst : wr.cell? ⟨w.heap.size, k, none⟩ = some (.int .i64 ((fillTo xs k).getD k 0)) := by
        have hl : k < (fillTo xs k).length := by rw [fillTo_len xs k (by omega)]; exact hkx
        rw [World.ownsRow.cellAt hown k (by omega)]
        simp [List.getD, List.getElem?_eq_getElem hl]
      have hfz := World.ownsRow.frozenAt hown k
      obtain ⟨hst, hgr⟩ := World.ownsRow.stored hown k (.int .i64 (xs.getD k 0))
      rw [map_set, fillTo_succ xs k hkx] at hst
      have hb' : Below w.heap.size w (wr.setCell ⟨w.heap.size, k, none⟩ (.int .i64 (xs.getD k 0))) := hb.setCell (by exact Nat.le_refl _) _
      obtain ⟨x, hx⟩ : ∃ x, x = xs.getD k 0 := ⟨_, rfl⟩
      rw [← hx] at hck hst hb'
      obtain ⟨y, hy⟩ : ∃ y, y = (fillTo xs k).getD k 0 := ⟨_, rfl⟩
      rw [← hy] at hdst
      clear hx hy hgr hown hb hkx
      have HS := Lib.hid hst; clear hst
      have HB := Lib.hid hb'; clear hb'
      go_wp2
      go_roundw
      case rel => exact ⟨k + 1, by omega, by go_num, HS.out, HB.out⟩
      case measure => simp [intOf]; omega
    · have hkn : k = n := by omega
      subst hkn
      have HO := Lib.hid hown; clear hown
      go_wp2
      go_ret
      refine ⟨_, rfl, ?_, hb⟩
      have h := HO.out
      rw [← HL.out, fillTo_all] at h
      have hl := HL.out
      subst hl
      exact h
theorem eq_any (ao bo : Option Addr) (n m c d : Nat) (xs ys : List Int) (w : World) (hx : Rd w ao n xs) (hy : Rd w bo m ys) (hn : n ≤ 9223372036854775807) (hm : m ≤ 9223372036854775807) :
    Calls Tryz.prog 65 #[.slice ao n c, .slice bo m d] w fun e w' => e = .returned (.bool (decide (xs = ys))) ∧ ∃ q, w' = w.drewN q := by
  obtain ⟨hxl, hxa⟩ := hx
  obtain ⟨hyl, hya⟩ := hy
  by_cases hnm : n = m
  · subst hnm
    have XL := Lib.hid hxl; clear hxl
    have XA := Lib.hid hxa; clear hxa
    have YL := Lib.hid hyl; clear hyl
    have YA := Lib.hid hya; clear hya
    have hne : ((n : Int) != (n : Int)) = false := by simp
    go_enter Tryz.func65, Tryz.ntmps65
    go_wp2
    clear hne
    go_loopw [5] (fun i wr => ∃ k : Nat, k ≤ n ∧ i = .int .i64 k ∧ Hid (xs.take k = ys.take k) ∧ ∃ q, wr = w.drewN q) (fun i _ => n - (intOf i).toNat)
    case atStart => exact ⟨0, Nat.zero_le _, rfl, rfl, 0, rfl⟩
    case round =>
      obtain ⟨k, hk, rfl, heq, q, rfl⟩ := hrel
      by_cases hlt : k < n
      · obtain ⟨b, off, rfl, hc⟩ := XA.out (by omega)
        obtain ⟨b', off', rfl, hc'⟩ := YA.out (by omega)
        have hck : w.cell? ⟨b, off + k, none⟩ = some (.int .i64 (xs.getD k 0)) := hc k hlt
        have hck' : w.cell? ⟨b', off' + k, none⟩ = some (.int .i64 (ys.getD k 0)) := hc' k hlt
        clear hc hc' XA YA
        obtain ⟨x, hx⟩ : ∃ x, x = xs.getD k 0 := ⟨_, rfl⟩
        obtain ⟨y, hy⟩ : ∃ y, y = ys.getD k 0 := ⟨_, rfl⟩
        rw [← hx] at hck
        rw [← hy] at hck'
        have HX := Lib.hid hx; clear hx
        have HY := Lib.hid hy; clear hy
        by_cases hxy : x = y
        · have hd : (x != y) = false := by simp [hxy]
          have HXY := Lib.hid hxy; clear hxy
          go_wp2
          go_quiet (fail)
          go_wp2
          go_roundw
          case rel => exact ⟨k + 1, by omega, by go_num, take_eq_succ (by rw [XL.out]; exact hlt) (by rw [YL.out]; exact hlt) heq.out (by rw [← HX.out, ← HY.out]; exact HXY.out), _, rfl⟩
          case measure => simp [intOf]; omega
        · have hd : (x != y) = true := by simp [hxy]
          have HXY := Lib.hid hxy; clear hxy
          go_wp2
          go_quiet (fail)
          go_wp2
          go_ret
          exact ⟨ret_bool (ne_of_getD (k := k) (by rw [← HX.out, ← HY.out]; exact HXY.out)).symm, _, World.drewN_drewN _ _ _⟩
      · have hkn : k = n := by omega
        subst hkn
        go_wp2
        go_ret
        exact ⟨ret_bool (decide_eq_true (list_eq_of_take XL.out YL.out heq.out)).symm, _, rfl⟩
  · have hne : ((n : Int) != (m : Int)) = true := by simp; omega
    have hf : decide (xs = ys) = false := ne_of_len (by rw [hxl, hyl]; exact hnm)
    rw [hf]
    clear hxl hyl hxa hya hf hnm
    go_enter Tryz.func65, Tryz.ntmps65
    go_wp2
    go_ret
    exact ⟨rfl, 0, rfl⟩
theorem eq_yes (ao bo : Option Addr) (n m c d : Nat) (xs : List Int) (w : World) (hx : Rd w ao n xs) (hy : Rd w bo m xs) (hn : n ≤ 9223372036854775807) :
    Calls Tryz.prog 65 #[.slice ao n c, .slice bo m d] w fun e w' => e = .returned (.bool true) ∧ Below w.heap.size w w' := by
  have hm : m ≤ 9223372036854775807 := by have := hx.len; have := hy.len; omega
  refine (eq_any ao bo n m c d xs xs w hx hy hn hm).mono ?_
  rintro e w' ⟨he, q, rfl⟩
  exact ⟨by rw [he]; simp, below_drewN' (Below.refl _ _) q⟩
theorem mark_any (g n cap base : Nat) (xs : List Int) (q : Int) (w : World) (hl : xs.length = n) (ho : Own 2 w base (.slice (some ⟨g, 0, none⟩) n cap) xs) (hn : n ≤ 4294967296) (hq0 : 0 ≤ q) (hq1 : q ≤ 4294967296) :
    Calls Tryz.prog 66 #[.slice (some ⟨g, 0, none⟩) n cap, .int .i64 q] w fun e w' => e = .returned (.int .i64 (q + n)) ∧ Own 2 w' base (.slice (some ⟨g, 0, none⟩) n cap) (marks q n) ∧ w.grownBy w' (some g) := by
  have ho1 : w.ownsRow base 2 1 (.slice (some ⟨g, 0, none⟩) n cap) n ((markTo q xs 0).map (Value.int .i64)) := by
    rw [markTo_zero, ← hl]; unfold Own at ho; rw [← hl] at ho; exact ho
  have HL := Lib.hid hl; clear hl ho
  have HO1 := Lib.hid ho1; clear ho1
  go_enter Tryz.func66, Tryz.ntmps66
  go_wp2
  go_loopw [1, 5] (fun v i wr => ∃ k : Nat, k ≤ n ∧ i = .int .i64 k ∧ v = .int .i64 (q + k) ∧ wr.ownsRow base 2 1 (.slice (some ⟨g, 0, none⟩) n cap) n ((markTo q xs k).map (Value.int .i64)) ∧ w.grownBy wr (some g)) (fun _ i _ => n - (intOf i).toNat)
  case atStart => exact ⟨0, Nat.zero_le _, rfl, by simp, HO1.out, World.grownBy.refl _ _⟩
  case round =>
    obtain ⟨k, hk, rfl, rfl, hown, hgr⟩ := hrel
    by_cases hlt : k < n
    · have hkx : k < xs.length := by rw [HL.out]; exact hlt
      have hdst : wr.cell? ⟨g, k, none⟩ = some (.int .i64 ((markTo q xs k).getD k 0)) := by
        have hl : k < (markTo q xs k).length := by rw [markTo_len q xs k (by omega)]; exact hkx
        rw [World.ownsRow.cellAt hown k (by omega)]
        simp [List.getD, List.getElem?_eq_getElem hl]
      have hfz := World.ownsRow.frozenAt hown k
      obtain ⟨hst, hgr'⟩ := World.ownsRow.stored hown k (.int .i64 (q + k))
      rw [map_set, markTo_succ q xs k hkx] at hst
      have hg2 : w.grownBy (wr.setCell ⟨g, k, none⟩ (.int .i64 (q + k))) (some g) := grown_trans hgr hgr'
      obtain ⟨y, hy⟩ : ∃ y, y = (markTo q xs k).getD k 0 := ⟨_, rfl⟩
      rw [← hy] at hdst
      clear hy hgr hown hgr' hkx
      have HS := Lib.hid hst; clear hst
      have HB := Lib.hid hg2; clear hg2
      go_wp2
      go_roundw
      case rel => exact ⟨k + 1, by omega, by go_num, by go_num, HS.out, HB.out⟩
      case measure => simp [intOf]; omega
    · have hkn : k = n := by omega
      subst hkn
      have HO := Lib.hid hown; clear hown
      go_wp2
      go_ret
      refine ⟨rfl, ?_, hgr⟩
      have h := HO.out
      have hl := HL.out
      subst hl
      rw [markTo_all] at h
      unfold Own
      rw [marks_len]
      exact h
theorem mark_own (ao : Option Addr) (n cap base : Nat) (xs : List Int) (q : Int) (w : World) (hl : xs.length = n) (ho : Own 2 w base (.slice ao n cap) xs) (hn : n ≤ 4294967296) (hq0 : 0 ≤ q) (hq1 : q ≤ 4294967296) :
    Calls Tryz.prog 66 #[.slice ao n cap, .int .i64 q] w fun e w' => e = .returned (.int .i64 (q + n)) ∧ Own 2 w' base (.slice ao n cap) (marks q n) ∧ w.grownBy w' (Value.ownBlock (.slice ao n cap)) := by
  obtain ⟨ao', cap', e, -, -, -, hcase⟩ := ho.form
  rw [hl] at e
  cases e
  rcases hcase with hnil | ⟨g, rfl, -, -⟩
  · simp only [Value.slice.injEq] at hnil
    obtain ⟨rfl, rfl, rfl⟩ := hnil
    clear ho
    go_enter Tryz.func66, Tryz.ntmps66
    go_wp2
    refine wp_loop_rounds 1 ?_
    rw [rounds_succ]
    go_wp2
    go_ret
    exact ⟨ret_int (by simp), Own.nil_, World.grownBy.refl _ _⟩
  · exact mark_any g n cap base xs q w hl ho hn hq0 hq1
end
section
open Go.RowKit
end
section
open Go.RowKit
end
section
open Go.RowKit
end
end

section
open Go.RowKit
theorem l01In_any (x lo hi : Int) (w : World) : Calls Tryz.prog 180 #[.int .i64 x, .int .i64 lo, .int .i64 hi] w fun e w' => e = .returned (.bool (inRange lo hi x)) ∧ w = w' := by
  by_cases h0 : lo ≤ x
  · by_cases h1 : x ≤ hi
    · rw [show inRange lo hi x = true from by simp [inRange, h0, h1]]; exact l01In_yes x lo hi w h0 h1
    · rw [show inRange lo hi x = false from by simp [inRange, h1]]; exact l01In_no x lo hi w (.inr (by omega))
  · rw [show inRange lo hi x = false from by simp [inRange, h0]]; exact l01In_no x lo hi w (.inl (by omega))
end

section
section
open Go.RowKit
end
section
open Go.RowKit
theorem quiet_left {P : Program} {f : FuncId} {args : Array Value} {w : World} {n : Nat} {v : Value}
    (h : Calls P f args (w.drewN n) fun e w' => e = .returned v ∧ w.drewN n = w') : Calls P f args (w.drewN n) fun e w'' => e = .returned v ∧ ∃ m, w'' = w.drewN m :=
  h.mono fun _ _ ⟨he, hm⟩ => ⟨he, n, hm.symm⟩
theorem areIndices_any (ao : Option Addr) (n cap : Nat) (ids : List Int) (m : Int) (w : World) (hr : Rd w ao n ids) (hn : n ≤ 9223372036854775807) :
    Calls Tryz.prog 173 #[.slice ao n cap, .int .i64 m] w fun e w' => e = .returned (.bool (rises m ids)) ∧ w = w' := by
  obtain ⟨hlen, hat⟩ := hr
  have HL := Lib.hid hlen; clear hlen
  have HA := Lib.hid hat; clear hat
  go_enter Tryz.func173, Tryz.ntmps173
  go_wp2
  go_loop [5, 10] (fun v i => ∃ k : Nat, k ≤ n ∧ i = .int .i64 k ∧ v = .int .i64 (prev ids k) ∧ Hid (∀ i, i < k → stepOk m ids i)) (fun _ i => n - (intOf i).toNat)
  case atStart => exact ⟨0, Nat.zero_le _, rfl, rfl, fun i hi => absurd hi (by omega)⟩
  case round =>
    obtain ⟨k, hk, rfl, rfl, hall⟩ := hrel
    by_cases hlt : k < n
    · obtain ⟨b, off, rfl, hc⟩ := HA.out (by omega)
      have hck := hc k hlt
      clear hc HA
      have hkx : k < ids.length := by rw [HL.out]; exact hlt
      have hps := prev_succ ids k
      obtain ⟨x, hx⟩ : ∃ x, x = ids.getD k 0 := ⟨_, rfl⟩
      obtain ⟨p, hp⟩ : ∃ p, p = prev ids k := ⟨_, rfl⟩
      have hso : stepOk m ids k ↔ p < x ∧ x < m := by unfold stepOk; rw [← hp, ← hx]
      rw [← hx] at hck hps
      rw [← hp]
      have HX := Lib.hid hso; clear hso
      have HK := Lib.hid hkx; clear hkx
      have HP := Lib.hid hps; clear hps hp hx
      by_cases h0 : x ≤ p
      · go_wp2
        go_ret
        exact ⟨ret_bool (rises_no HK.out (fun h => by have := HX.out.1 h; omega)).symm, rfl⟩
      · by_cases h1 : m ≤ x
        · go_wp2
          go_ret
          exact ⟨ret_bool (rises_no HK.out (fun h => by have := HX.out.1 h; omega)).symm, rfl⟩
        · go_wp2
          go_round
          case rel => exact ⟨k + 1, by omega, by go_num, by rw [HP.out], stepOk_succ hall.out (HX.out.2 ⟨by omega, by omega⟩)⟩
          case measure => simp [intOf]; omega
    · have hkn : k = n := by omega
      subst hkn
      have hfin := rises_yes (n := m) (ids := ids) (by rw [HL.out]; exact hall.out)
      have HF := Lib.hid hfin; clear hfin
      go_wp2
      go_ret
      exact ⟨ret_bool HF.out.symm, rfl⟩
theorem l01Rises_any (ao : Option Addr) (n cap : Nat) (ids : List Int) (m : Int) (w : World) (hr : Rd w ao n ids) (hn : n ≤ 9223372036854775807) (hm : 0 ≤ m) (hm2 : m ≤ 4294967296) :
    Calls Tryz.prog 215 #[.slice ao n cap, .int .i64 m] w fun e w' => e = .returned (.bool (rises m ids)) ∧ Below w.heap.size w w' := by
  have hlen := hr.len
  have HL := Lib.hid hlen; clear hlen
  go_enter Tryz.func215, Tryz.ntmps215
  go_wp2
  go_loopw [5] (fun i wr => ∃ k : Nat, k ≤ n ∧ i = .int .i64 k ∧ Hid (∀ i, i < k → stepOk m ids i) ∧ Below w.heap.size w wr) (fun i _ => n - (intOf i).toNat)
  case atStart => exact ⟨0, Nat.zero_le _, rfl, fun i hi => absurd hi (by omega), Below.refl _ _⟩
  case round =>
    obtain ⟨k, hk, rfl, hall, hbel⟩ := hrel
    by_cases hlt : k < n
    · have hrr := hr.below hbel
      obtain ⟨b, off, rfl, hc⟩ := hrr.here (by omega)
      have hck := hc k hlt
      have hcp : 0 < k → wr.cell? ⟨b, off + (k - 1), none⟩ = some (.int .i64 (ids.getD (k - 1) 0)) := fun _ => hc (k - 1) (by omega)
      clear hc
      have hkx : k < ids.length := by rw [HL.out]; exact hlt
      have hpl := prev_low hall.out
      obtain ⟨x, hx⟩ : ∃ x, x = ids.getD k 0 := ⟨_, rfl⟩
      have hso : stepOk m ids k ↔ prev ids k < x ∧ x < m := by unfold stepOk; rw [← hx]
      rw [← hx] at hck
      have HX := Lib.hid hso; clear hso hx
      have HK := Lib.hid hkx; clear hkx
      have HB := Lib.hid hbel; clear hbel
      by_cases hin : 0 ≤ x ∧ x ≤ m - 1
      · obtain ⟨h0, h1⟩ := hin
        rcases k with _ | k
        · rw [Nat.add_zero] at hck
          clear hcp
          have hso : stepOk m ids 0 := HX.out.2 ⟨by rw [prev_zero]; omega, by omega⟩
          have HS := Lib.hid hso; clear hso
          go_wp2
          go_quiet ((go_at_call 180; exact quiet_left (l01In_yes _ _ _ _ h0 h1)))
          go_wp2
          go_roundw
          case rel => exact ⟨1, by omega, rfl, stepOk_succ hall.out HS.out, below_drewN' HB.out _⟩
          case measure => simp [intOf]; omega
        · have hcq := hcp (by omega)
          rw [Nat.add_sub_cancel] at hcq
          clear hcp
          have hps := prev_succ ids k
          obtain ⟨p, hp⟩ : ∃ p, p = ids.getD k 0 := ⟨_, rfl⟩
          rw [← hp] at hcq hps
          have hso : stepOk m ids (k + 1) ↔ p < x ∧ x < m := by rw [← hps]; exact HX.out
          have HX := Lib.hid hso; clear hso hps hp
          have hgt : (0 : Int) < ((k + 1 : Nat) : Int) := by omega
          by_cases hxp : x ≤ p
          · go_wp2
            go_quiet ((go_at_call 180; exact quiet_left (l01In_yes _ _ _ _ h0 h1)))
            go_wp2
            go_ret
            exact ⟨ret_bool (rises_no HK.out (fun h => by have := HX.out.1 h; omega)).symm, below_drewN' HB.out _⟩
          · have hd : decide (x ≤ p) = false := decide_eq_false hxp
            have hso2 : stepOk m ids (k + 1) := HX.out.2 ⟨by omega, by omega⟩
            have HS := Lib.hid hso2; clear hso2
            go_wp2
            go_quiet ((go_at_call 180; exact quiet_left (l01In_yes _ _ _ _ h0 h1)))
            go_wp2
            go_roundw
            case rel => exact ⟨k + 1 + 1, by omega, by go_num, stepOk_succ hall.out HS.out, below_drewN' HB.out _⟩
            case measure => simp [intOf]; omega
      · have hin' : x < 0 ∨ m - 1 < x := by omega
        have HI := Lib.hid hin'; clear hin hin'
        go_wp2
        go_quiet ((go_at_call 180; exact quiet_left (l01In_no _ _ _ _ HI.out)))
        go_wp2
        go_ret
        exact ⟨ret_bool (rises_no HK.out (fun h => by have := HX.out.1 h; have := HI.out; omega)).symm, by have := HB.out; exact below_drewN' this _⟩
    · have hkn : k = n := by omega
      subst hkn
      have hfin := rises_yes (n := m) (ids := ids) (by rw [HL.out]; exact hall.out)
      have HF := Lib.hid hfin; clear hfin
      go_wp2
      go_ret
      exact ⟨ret_bool HF.out.symm, hbel⟩
end
section
open Go.RowKit
end
section
open Go.RowKit
end
section
open Go.RowKit
end
end

section
section
open Go.Joins Go.ChangeShapes Go.WideShapes Go.RowKit
theorem list_five {α : Type} {cs : List α} (h : cs.length = 5) : ∃ a b c d e, cs = [a, b, c, d, e] := by
  match cs, h with
  | [a, b, c, d, e], _ => exact ⟨a, b, c, d, e, rfl⟩
section
variable {H : Type} {enc : TypeId × Value → H} {P : Program} {w : World} {base : Nat} {spare : Nat → Bool} {held : Bool}
theorem int_at {cs : List Value} {f : Field} {i F n : Nat} {y : DataW H × List MemPlace} (hF : P.underlying F = some (.int .i64)) (hC : P.cellsOf F = 1) (hf : f.type = F ∧ f.offset = i)
    (h : DataW.trod enc P w base spare held n f.type ((cs.drop f.offset).take (P.cellsOf f.type)) = some y) : ∃ x : Int, (cs.drop i).take 1 = [.int .i64 x] ∧ y.2 = [] ∧ (Lit.int .i64 x).wf = true := by
  obtain ⟨rfl, rfl⟩ := hf
  rw [hC] at h
  obtain ⟨x, h1, h2, h3⟩ := DataW.trod_int hF h
  exact ⟨x, h1, by rw [h2], h3⟩
theorem open_five {r : Reach} {b0 : Nat} {t F : TypeId} {f0 f1 f2 f3 f4 : Field} {v : Value} {d : DataW H} {p : List MemPlace} (hs : P.underlying t = some (.struct #[f0, f1, f2, f3, f4])) (hF : P.underlying F = some (.int .i64)) (hCF : P.cellsOf F = 1) (hC : P.cellsOf t = 5)
    (hfs : (f0.type = F ∧ f0.offset = 0) ∧ (f1.type = F ∧ f1.offset = 1) ∧ (f2.type = F ∧ f2.offset = 2) ∧ (f3.type = F ∧ f3.offset = 3) ∧ f4.type = F ∧ f4.offset = 4)
    (hv : Value.okWide P w r b0 t v) (h : DataW.Trod enc P w base spare held t v d p) :
    ∃ n0 n1 n2 n3 n4 : Int, v = .agg #[.int .i64 n0, .int .i64 n1, .int .i64 n2, .int .i64 n3, .int .i64 n4] ∧ p = [] ∧
      (Lit.int .i64 n0).wf = true ∧ (Lit.int .i64 n1).wf = true ∧ (Lit.int .i64 n2).wf = true ∧ (Lit.int .i64 n3).wf = true ∧ (Lit.int .i64 n4).wf = true := by
  obtain ⟨⟨cs⟩, rfl, hsz⟩ := okWide_struct hs hv
  obtain ⟨c0, c1, c2, c3, c4, rfl⟩ := list_five (hsz.trans hC)
  obtain ⟨fuel, hf⟩ := h
  obtain ⟨xs, n, -, hx, -, hlen, hg⟩ := DataW.trod_struct hs hf
  obtain ⟨y0, y1, y2, y3, y4, rfl⟩ := list_five hlen
  obtain ⟨h0, h1, h2, h3, h4⟩ := hfs
  obtain ⟨n0, e0, p0, w0⟩ := int_at (y := y0) hF hCF h0 (by simpa [Value.cells] using hg 0 f0 rfl)
  obtain ⟨n1, e1, p1, w1⟩ := int_at (y := y1) hF hCF h1 (by simpa [Value.cells] using hg 1 f1 rfl)
  obtain ⟨n2, e2, p2, w2⟩ := int_at (y := y2) hF hCF h2 (by simpa [Value.cells] using hg 2 f2 rfl)
  obtain ⟨n3, e3, p3, w3⟩ := int_at (y := y3) hF hCF h3 (by simpa [Value.cells] using hg 3 f3 rfl)
  obtain ⟨n4, e4, p4, w4⟩ := int_at (y := y4) hF hCF h4 (by simpa [Value.cells] using hg 4 f4 rfl)
  simp only [List.drop_zero, List.drop_succ_cons, List.take_succ_cons, List.take_zero, List.cons.injEq, and_true] at e0 e1 e2 e3 e4
  simp only [Prod.mk.injEq] at hx
  subst e0 e1 e2 e3 e4
  exact ⟨n0, n1, n2, n3, n4, rfl, by rw [hx.2]; simp [p0, p1, p2, p3, p4], w0, w1, w2, w3, w4⟩
end
end
section
open Go.RowKit
def StateAt (T : Nat) (w : World) (b : Nat) (t m r s k : Int) : Prop := w.heap[b]? = some (.cells #[.int .i64 t, .int .i64 m, .int .i64 r, .int .i64 s, .int .i64 k] T (0, 0))
def GivesState (w : World) (t m r s k : Int) (e : Ending) (w' : World) : Prop := e = .returned (.agg #[.int .i64 t, .int .i64 m, .int .i64 r, .int .i64 s, .int .i64 k]) ∧ Below w.heap.size w w'
section
variable {T b p : Nat} {w w' : World} {t m r s k : Int}
theorem StateAt.c0 (h : StateAt T w b t m r s k) : w.cell? ⟨b, 0, none⟩ = some (.int .i64 t) := cell_of_row w b 0 _ _ (0, 0) h
theorem StateAt.c1 (h : StateAt T w b t m r s k) : w.cell? ⟨b, 1, none⟩ = some (.int .i64 m) := cell_of_row w b 1 _ _ (0, 0) h
theorem StateAt.c2 (h : StateAt T w b t m r s k) : w.cell? ⟨b, 2, none⟩ = some (.int .i64 r) := cell_of_row w b 2 _ _ (0, 0) h
theorem StateAt.c3 (h : StateAt T w b t m r s k) : w.cell? ⟨b, 3, none⟩ = some (.int .i64 s) := cell_of_row w b 3 _ _ (0, 0) h
theorem StateAt.c4 (h : StateAt T w b t m r s k) : w.cell? ⟨b, 4, none⟩ = some (.int .i64 k) := cell_of_row w b 4 _ _ (0, 0) h
theorem StateAt.f (h : StateAt T w b t m r s k) (i : Nat) : w.frozen? ⟨b, i, none⟩ = false := frozen_of_row w b i _ _ h
theorem StateAt.lt (h : StateAt T w b t m r s k) : b < w.heap.size := (Array.getElem?_eq_some_iff.1 h).1
theorem StateAt.grown {g : Option Nat} (h : StateAt T w b t m r s k) (hg : w.grownBy w' g) (hne : some b ≠ g) : StateAt T w' b t m r s k := (hg.block b h.lt hne).trans h
theorem StateAt.below {B : Nat} (h : StateAt T w b t m r s k) (hb : Below B w w') (hlt : b < B) : StateAt T w' b t m r s k := (hb.block b hlt).trans h
theorem StateAt.new (w : World) : StateAt T (w.alloc (.cells #[.int .i64 t, .int .i64 m, .int .i64 r, .int .i64 s, .int .i64 k] T)) w.heap.size t m r s k := heap_alloc_new w _
theorem StateAt.set0 (h : StateAt T w b t m r s k) (z : Int) : StateAt T (w.setCell ⟨b, 0, none⟩ (.int .i64 z)) b z m r s k := by
  have := heap_setCell_same w b 0 _ _ (.int .i64 z) h
  simpa [StateAt] using this
theorem StateAt.set1 (h : StateAt T w b t m r s k) (z : Int) : StateAt T (w.setCell ⟨b, 1, none⟩ (.int .i64 z)) b t z r s k := by
  have := heap_setCell_same w b 1 _ _ (.int .i64 z) h
  simpa [StateAt] using this
theorem StateAt.set2 (h : StateAt T w b t m r s k) (z : Int) : StateAt T (w.setCell ⟨b, 2, none⟩ (.int .i64 z)) b t m z s k := by
  have := heap_setCell_same w b 2 _ _ (.int .i64 z) h
  simpa [StateAt] using this
theorem StateAt.set3 (h : StateAt T w b t m r s k) (z : Int) : StateAt T (w.setCell ⟨b, 3, none⟩ (.int .i64 z)) b t m r z k := by
  have := heap_setCell_same w b 3 _ _ (.int .i64 z) h
  simpa [StateAt] using this
theorem StateAt.set4 (h : StateAt T w b t m r s k) (z : Int) : StateAt T (w.setCell ⟨b, 4, none⟩ (.int .i64 z)) b t m r s z := by
  have := heap_setCell_same w b 4 _ _ (.int .i64 z) h
  simpa [StateAt] using this
theorem StateAt.other (h : StateAt T w b t m r s k) {c i : Nat} {v : Value} (hne : b ≠ c) : StateAt T (w.setCell ⟨c, i, none⟩ v) b t m r s k := (heap_setCell_other _ _ _ _ hne).trans h
end
theorem state_eql (t m r s k t' m' r' s' k' : Int) (w : World) : (binOp .eql 30 (.agg #[.int .i64 t, .int .i64 m, .int .i64 r, .int .i64 s, .int .i64 k]) (.agg #[.int .i64 t', .int .i64 m', .int .i64 r', .int .i64 s', .int .i64 k'])).run Tryz.prog w = .ok (.bool (decide (t = t' ∧ m = m' ∧ r = r' ∧ s = s' ∧ k = k'))) w := by
  rw [run_eql_struct]
  have h : (Op.equalIn 10000 30 (.agg #[.int .i64 t, .int .i64 m, .int .i64 r, .int .i64 s, .int .i64 k]) (.agg #[.int .i64 t', .int .i64 m', .int .i64 r', .int .i64 s', .int .i64 k'])).run Tryz.prog w = .ok (decide (t = t' ∧ m = m' ∧ r = r' ∧ s = s' ∧ k = k')) w := by
    rw [run_equalIn_agg w 9999 _ _ _ (by kernel_rfl) (by kernel_rfl)]
    have hp : Tryz.prog.stoodInHeld 2 = false := by kernel_rfl
    simp only [Program.fieldsOf, Tryz.underlying30, Op.eqFields]
    by_cases h1 : t = t' <;> by_cases h2 : m = m' <;> by_cases h3 : r = r' <;> by_cases h4 : s = s' <;> by_cases h5 : k = k' <;> simp [go_sem, h1, h2, h3, h4, h5]
  rw [h]; rfl
theorem toState_any (t m r s k : Int) (w : World) : Calls Tryz.prog 59 #[.agg #[.int .i64 t, .int .i64 m, .int .i64 r, .int .i64 s, .int .i64 k]] w (GivesState w t m r s k) := by
  go_enter Tryz.func59, Tryz.ntmps59
  go_wp2
  exact bodyPost_ret (v := .agg #[.int .i64 t, .int .i64 m, .int .i64 r, .int .i64 s, .int .i64 k]) (by simp [results, Tryz.results59, go_sem]) rfl ⟨rfl, (((Below.refl _ _).alloc (Nat.le_refl _) _).alloc (by simp) _).alloc (by simp; omega) _⟩
theorem below_box {w w' : World} {o : Obj} (h : Below (w.alloc o).heap.size (w.alloc o) w') : Below w.heap.size w w' := below_two ((Below.refl _ _).alloc (Nat.le_refl _) _) h
theorem state_new2 {T U : Nat} {w w' : World} {t m r s k t' m' r' s' k' : Int} (h : Below ((w.alloc (.cells #[.int .i64 t, .int .i64 m, .int .i64 r, .int .i64 s, .int .i64 k] T)).alloc (.cells #[.int .i64 t', .int .i64 m', .int .i64 r', .int .i64 s', .int .i64 k'] U)).heap.size ((w.alloc (.cells #[.int .i64 t, .int .i64 m, .int .i64 r, .int .i64 s, .int .i64 k] T)).alloc (.cells #[.int .i64 t', .int .i64 m', .int .i64 r', .int .i64 s', .int .i64 k'] U)) w') :
    StateAt T w' w.heap.size t m r s k ∧ StateAt U w' (w.heap.size + 1) t' m' r' s' k' :=
  ⟨((StateAt.new w).below (B := (w.alloc (.cells #[.int .i64 t, .int .i64 m, .int .i64 r, .int .i64 s, .int .i64 k] T)).heap.size) ((Below.refl _ _).alloc (Nat.le_refl _) _) (by simp)).below h (by simp; omega), by
    have e : (w.alloc (.cells #[.int .i64 t, .int .i64 m, .int .i64 r, .int .i64 s, .int .i64 k] T)).heap.size = w.heap.size + 1 := by simp
    have := (StateAt.new (T := U) (t := t') (m := m') (r := r') (s := s') (k := k') (w.alloc (.cells #[.int .i64 t, .int .i64 m, .int .i64 r, .int .i64 s, .int .i64 k] T))).below h (by simp)
    rwa [e] at this⟩
theorem below_box2 {w w' : World} {o u : Obj} (h : Below ((w.alloc o).alloc u).heap.size ((w.alloc o).alloc u) w') : Below w.heap.size w w' := below_box (below_box h)
theorem and_mask16 (n : Int) : bits .and .i64 n 65535 = n % 65536 := by
  have h1 : (BitVec.ofInt 64 65535).toNat = 2 ^ 16 - 1 := by decide
  have key : (BitVec.ofInt 64 n &&& BitVec.ofInt 64 65535).toNat = (n % ((2 ^ 64 : Nat) : Int)).toNat % 2 ^ 16 := by
    rw [BitVec.toNat_and, BitVec.toNat_ofInt, h1, Nat.and_two_pow_sub_one_eq_mod]
  show IntKind.i64.wrap ((BitVec.ofInt 64 n &&& BitVec.ofInt 64 65535).toNat : Nat) = n % 65536
  rw [key, IntKind.wrap_i64]
  omega
theorem and_mask4 (n : Int) : bits .and .i64 n 15 = n % 16 := by
  have h1 : (BitVec.ofInt 64 15).toNat = 2 ^ 4 - 1 := by decide
  have key : (BitVec.ofInt 64 n &&& BitVec.ofInt 64 15).toNat = (n % ((2 ^ 64 : Nat) : Int)).toNat % 2 ^ 4 := by
    rw [BitVec.toNat_and, BitVec.toNat_ofInt, h1, Nat.and_two_pow_sub_one_eq_mod]
  show IntKind.i64.wrap ((BitVec.ofInt 64 n &&& BitVec.ofInt 64 15).toNat : Nat) = n % 16
  rw [key, IntKind.wrap_i64]
  omega
theorem and_mask8 (n : Int) : bits .and .i64 n 255 = n % 256 := by
  have h1 : (BitVec.ofInt 64 255).toNat = 2 ^ 8 - 1 := by decide
  have key : (BitVec.ofInt 64 n &&& BitVec.ofInt 64 255).toNat = (n % ((2 ^ 64 : Nat) : Int)).toNat % 2 ^ 8 := by
    rw [BitVec.toNat_and, BitVec.toNat_ofInt, h1, Nat.and_two_pow_sub_one_eq_mod]
  show IntKind.i64.wrap ((BitVec.ofInt 64 n &&& BitVec.ofInt 64 255).toNat : Nat) = n % 256
  rw [key, IntKind.wrap_i64]
  omega
theorem and_mask32 (n : Int) : bits .and .i64 n 4294967295 = n % 4294967296 := by
  have h1 : (BitVec.ofInt 64 4294967295).toNat = 2 ^ 32 - 1 := by decide
  have key : (BitVec.ofInt 64 n &&& BitVec.ofInt 64 4294967295).toNat = (n % ((2 ^ 64 : Nat) : Int)).toNat % 2 ^ 32 := by
    rw [BitVec.toNat_and, BitVec.toNat_ofInt, h1, Nat.and_two_pow_sub_one_eq_mod]
  show IntKind.i64.wrap ((BitVec.ofInt 64 n &&& BitVec.ofInt 64 4294967295).toNat : Nat) = n % 4294967296
  rw [key, IntKind.wrap_i64]
  omega
theorem masks_iff (t m r s k : Int) : decide (t = t % 65536 ∧ m = m % 16 ∧ r = r % 16 ∧ s = s % 256 ∧ k = k % 4294967296) = isState t m r s k := by
  rw [Bool.eq_iff_iff, isState_iff, decide_eq_true_eq]
  omega
theorem isState_any (t m r s k : Int) (w : World) : Calls Tryz.prog 168 #[.agg #[.int .i64 t, .int .i64 m, .int .i64 r, .int .i64 s, .int .i64 k]] w fun e w' => e = .returned (.bool (isState t m r s k)) ∧ Below w.heap.size w w' := by
  have he := fun w => state_eql t m r s k (t % 65536) (m % 16) (r % 16) (s % 256) (k % 4294967296) w
  rw [masks_iff] at he
  rw [← and_mask16 t, ← and_mask4 m, ← and_mask4 r, ← and_mask8 s, ← and_mask32 k] at he
  go_enter Tryz.func168, Tryz.ntmps168
  go_wp2
  go_ret
  exact ⟨rfl, (Below.refl _ _).alloc (Nat.le_refl _) _⟩
theorem sIsState_any (t m r s k : Int) (w : World) : Calls Tryz.prog 171 #[.agg #[.int .i64 t, .int .i64 m, .int .i64 r, .int .i64 s, .int .i64 k]] w fun e w' => e = .returned (.bool (isState t m r s k)) ∧ Below w.heap.size w w' := by
  rcases h0 : inRange 0 65535 t with _ | _
  · rw [show isState t m r s k = false from by simp [isState, h0]]
    go_enter Tryz.func171, Tryz.ntmps171
    go_wp2_with (go_at_call 180; refine (l01In_any _ _ _ _).mono ?_; rintro e w' ⟨rfl, rfl⟩)
    go_ret
    exact ⟨rfl, (Below.refl _ _).alloc (Nat.le_refl _) _⟩
  rcases h1 : inRange 0 15 m with _ | _
  · rw [show isState t m r s k = false from by simp [isState, h1]]
    go_enter Tryz.func171, Tryz.ntmps171
    go_wp2_with (go_at_call 180; refine (l01In_any _ _ _ _).mono ?_; rintro e w' ⟨rfl, rfl⟩)
    go_ret
    exact ⟨rfl, (Below.refl _ _).alloc (Nat.le_refl _) _⟩
  rcases h2 : inRange 0 15 r with _ | _
  · rw [show isState t m r s k = false from by simp [isState, h2]]
    go_enter Tryz.func171, Tryz.ntmps171
    go_wp2_with (go_at_call 180; refine (l01In_any _ _ _ _).mono ?_; rintro e w' ⟨rfl, rfl⟩)
    go_ret
    exact ⟨rfl, (Below.refl _ _).alloc (Nat.le_refl _) _⟩
  rcases h3 : inRange 0 255 s with _ | _
  · rw [show isState t m r s k = false from by simp [isState, h3]]
    go_enter Tryz.func171, Tryz.ntmps171
    go_wp2_with (go_at_call 180; refine (l01In_any _ _ _ _).mono ?_; rintro e w' ⟨rfl, rfl⟩)
    go_ret
    exact ⟨rfl, (Below.refl _ _).alloc (Nat.le_refl _) _⟩
  have hk : isState t m r s k = inRange 0 4294967295 k := by simp [isState, h0, h1, h2, h3]
  rw [hk]; clear hk
  go_enter Tryz.func171, Tryz.ntmps171
  go_wp2_with (go_at_call 180; refine (l01In_any _ _ _ _).mono ?_; rintro e w' ⟨rfl, rfl⟩)
  go_ret
  exact ⟨rfl, (Below.refl _ _).alloc (Nat.le_refl _) _⟩
end
section
open Go.RowKit
end
section
open Go.RowKit
def GivesState2 (w : World) (q : Int × Int × Int × Int × Int × Int) (e : Ending) (w' : World) : Prop := e = .returned (.tuple #[.agg #[.int .i64 q.1, .int .i64 q.2.1, .int .i64 q.2.2.1, .int .i64 q.2.2.2.1, .int .i64 q.2.2.2.2.1], .int .i64 q.2.2.2.2.2]) ∧ Below w.heap.size w w'
def mayAdvance (r s d slots rounds : Int) : Bool := inRange 0 65535 d && inRange 1 256 slots && inRange 1 16 rounds && decide (s < slots) && decide (r < rounds)
def advanced (t m r s k d slots rounds : Int) : Int × Int × Int × Int × Int × Int :=
  if isState t m r s k = false then (0, 0, 0, 0, 0, 1) else if mayAdvance r s d slots rounds = false then (0, 0, 0, 0, 0, 2) else ((t + d) % 65536, m, (stepRS slots rounds r s).1, (stepRS slots rounds r s).2, k, 0)
section
variable {t m r s k d slots rounds : Int}
theorem ad_1 (h : isState t m r s k = false) : advanced t m r s k d slots rounds = (0, 0, 0, 0, 0, 1) := by simp [advanced, h]
theorem ad_2 (h : isState t m r s k = true) (h2 : mayAdvance r s d slots rounds = false) : advanced t m r s k d slots rounds = (0, 0, 0, 0, 0, 2) := by simp [advanced, h, h2]
theorem ad_0 (h : isState t m r s k = true) (h2 : mayAdvance r s d slots rounds = true) : advanced t m r s k d slots rounds = ((t + d) % 65536, m, (stepRS slots rounds r s).1, (stepRS slots rounds r s).2, k, 0) := by simp [advanced, h, h2]
theorem may_iff : mayAdvance r s d slots rounds = true ↔ (0 ≤ d ∧ d ≤ 65535) ∧ (1 ≤ slots ∧ slots ≤ 256) ∧ (1 ≤ rounds ∧ rounds ≤ 16) ∧ s < slots ∧ r < rounds := by
  simp only [mayAdvance, inRange, Bool.and_eq_true, decide_eq_true_eq]
  constructor
  · rintro ⟨⟨⟨⟨a, b⟩, c⟩, d⟩, e⟩; exact ⟨a, b, c, d, e⟩
  · rintro ⟨a, b, c, d, e⟩; exact ⟨⟨⟨⟨a, b⟩, c⟩, d⟩, e⟩
theorem may_not (h : ¬ ((0 ≤ d ∧ d ≤ 65535) ∧ (1 ≤ slots ∧ slots ≤ 256) ∧ (1 ≤ rounds ∧ rounds ≤ 16) ∧ s < slots ∧ r < rounds)) : mayAdvance r s d slots rounds = false := by
  rcases hm : mayAdvance r s d slots rounds with _ | _
  · rfl
  · exact absurd (may_iff.1 hm) h
end
theorem below_two' {B : Nat} {a w w' : World} (h : Below B a w) (k : Below B w w') : Below B a w' := h.trans k
def setFive (w : World) (b : Nat) (t m r s k : Int) : World := ((((w.setCell ⟨b, 0, none⟩ (.int .i64 t)).setCell ⟨b, 1, none⟩ (.int .i64 m)).setCell ⟨b, 2, none⟩ (.int .i64 r)).setCell ⟨b, 3, none⟩ (.int .i64 s)).setCell ⟨b, 4, none⟩ (.int .i64 k)
theorem below_five {B b : Nat} {w : World} (hb : B ≤ b) (t m r s k : Int) : Below B w (setFive w b t m r s k) := ((((((Below.refl _ _).setCell hb _).setCell hb _).setCell hb _).setCell hb _).setCell hb _)
theorem StateAt.five {T b : Nat} {w : World} {t m r s k : Int} (h : StateAt T w b t m r s k) (t' m' r' s' k' : Int) : StateAt T (setFive w b t' m' r' s' k') b t' m' r' s' k' :=
  ((((h.set0 t').set1 m').set2 r').set3 s').set4 k'
theorem timeAfter_any (t d : Int) (w : World) (h0 : 0 ≤ t) (h1 : t ≤ 65535) (h2 : 0 ≤ d) (h3 : d ≤ 65535) :
    Calls Tryz.prog 170 #[.int .i64 t, .int .i64 d] w fun e w' => e = .returned (.int .i64 ((t + d) % 65536)) ∧ w = w' := by
  go_enter Tryz.func170, Tryz.ntmps170
  go_wp2
  go_ret
  exact ⟨rfl, rfl⟩
section
variable {t m r s k d slots rounds : Int}
theorem advanceState_good (hA : isState t m r s k = true) (h0 : 0 ≤ d ∧ d ≤ 65535) (h2 : slots ≤ 256) (h3 : rounds ≤ 16) (h4 : s < slots) (h5 : r < rounds) (w : World) :
    Calls Tryz.prog 130 #[.agg #[.int .i64 t, .int .i64 m, .int .i64 r, .int .i64 s, .int .i64 k], .int .i64 d, .int .i64 slots, .int .i64 rounds] w (GivesState2 w (advanced t m r s k d slots rounds)) := by
  obtain ⟨⟨t0, t1⟩, -, ⟨r0, r1⟩, ⟨s0, s1⟩, -⟩ := isState_iff.1 hA
  rw [ad_0 hA (may_iff.2 ⟨by omega, by omega, by omega, by omega, by omega⟩)]
  have HA := Lib.hid hA; clear hA
  obtain ⟨h0, h1⟩ := h0
  go_enter Tryz.func130, Tryz.ntmps130
  go_wp2_with fail
  refine (isState_any _ _ _ _ _ _).mono ?_
  rintro e w1 ⟨rfl, b1⟩
  rw [HA.out]
  obtain ⟨S1, S2⟩ := state_new2 b1
  have HZ := Lib.hid b1; clear b1
  have HS := Lib.hid S2; clear S2
  have d0 := S1.c0
  have d2 := S1.c2
  have d3 := S1.c3
  have f0 := S1.f 0
  go_upto_region 8 with (go_at_call 170; refine (timeAfter_any t d _ t0 t1 h0 h1).mono ?_; rintro e w' ⟨rfl, rfl⟩)
  have T1 := S1.set0 ((t + d) % 65536)
  have Z1 := StateAt.other (c := w.heap.size) (i := 0) (v := .int .i64 ((t + d) % 65536)) HS.out (by omega)
  have B1 := below_two' (below_box2 HZ.out) ((Below.refl w.heap.size w1).setCell (p := ⟨w.heap.size, 0, none⟩) (Nat.le_refl _) (.int .i64 ((t + d) % 65536)))
  generalize w1.setCell ⟨w.heap.size, 0, none⟩ (.int .i64 ((t + d) % 65536)) = w2 at T1 Z1 B1 ⊢
  clear S1 d0 d2 d3 f0 HS HZ h0 h1 h2 h3
  have d3 := T1.c3
  have f3 := T1.f 3
  go_upto_region 9 with fail
  clear d3 f3
  have hc : (s + 1) % slots = if s + 1 = slots then 0 else s + 1 := by
    split
    · rename_i e; rw [e, Int.emod_self]
    · exact Int.emod_eq_of_lt (by omega) (by omega)
  obtain ⟨q, hq⟩ : ∃ q, (s + 1) % slots = q := ⟨_, rfl⟩
  rw [hq] at hc ⊢
  have T2 := T1.set3 q
  have Z2 := StateAt.other (c := w.heap.size) (i := 3) (v := .int .i64 q) Z1 (by omega)
  have B2 := below_two' B1 ((Below.refl w.heap.size w2).setCell (p := ⟨w.heap.size, 3, none⟩) (Nat.le_refl _) (.int .i64 q))
  generalize w2.setCell ⟨w.heap.size, 3, none⟩ (.int .i64 q) = w3 at T2 Z2 B2 ⊢
  clear hq T1 Z1 B1
  by_cases hs : s + 1 = slots
  · rw [if_pos hs] at hc
    subst hc
    have hst : stepRS slots rounds r s = ((r + 1) % rounds, 0) := by unfold stepRS; rw [if_pos hs]
    have HST := Lib.hid hst; clear hst hs
    have d2 := T2.c2
    have d3 := T2.c3
    have f2 := T2.f 2
    go_upto_region 11 with fail
    clear d2 d3 f2
    have T3 := T2.set2 ((r + 1) % rounds)
    have Z3 := StateAt.other (c := w.heap.size) (i := 2) (v := .int .i64 ((r + 1) % rounds)) Z2 (by omega)
    have B3 := below_two' B2 ((Below.refl w.heap.size w3).setCell (p := ⟨w.heap.size, 2, none⟩) (Nat.le_refl _) (.int .i64 ((r + 1) % rounds)))
    generalize w3.setCell ⟨w.heap.size, 2, none⟩ (.int .i64 ((r + 1) % rounds)) = w4 at T3 Z3 B3 ⊢
    clear T2 Z2 B2
    have c0 := T3.c0
    have c1 := T3.c1
    have c2 := T3.c2
    have c3 := T3.c3
    have c4 := T3.c4
    have g0 := Z3.c0
    have g1 := Z3.c1
    have g2 := Z3.c2
    have g3 := Z3.c3
    have g4 := Z3.c4
    have f0 := Z3.f 0
    have f1 := Z3.f 1
    have f2 := Z3.f 2
    have f3 := Z3.f 3
    have f4 := Z3.f 4
    go_wp2_with fail
    clear c0 c1 c2 c3 c4 f0 f1 f2 f3 f4 g0 g1 g2 g3 g4
    change bodyPost _ _ _ _ _ (setFive w4 (w.heap.size + 1) ((t + d) % 65536) m ((r + 1) % rounds) 0 k)
    have SF := StateAt.five (Z3) ((t + d) % 65536) m ((r + 1) % rounds) 0 k
    have BF := below_two' (B3) (below_five (B := w.heap.size) (w := w4) (b := w.heap.size + 1) (by omega) ((t + d) % 65536) m ((r + 1) % rounds) 0 k)
    generalize setFive w4 (w.heap.size + 1) ((t + d) % 65536) m ((r + 1) % rounds) 0 k = wz at SF BF ⊢
    have e0 := SF.c0
    have e1 := SF.c1
    have e2 := SF.c2
    have e3 := SF.c3
    have e4 := SF.c4
    exact bodyPost_ret (v := .tuple #[.agg #[.int .i64 ((t + d) % 65536), .int .i64 m, .int .i64 ((r + 1) % rounds), .int .i64 0, .int .i64 k], .int .i64 0]) (by simp [results, Tryz.results130, go_sem, e0, e1, e2, e3, e4]) rfl ⟨by simp only [HST.out], BF⟩
  · rw [if_neg hs] at hc
    have hst : stepRS slots rounds r s = (r, s + 1) := by unfold stepRS; rw [if_neg hs]
    rw [← hc] at hst
    have HST := Lib.hid hst
    have hq0 : (q == 0) = false := by rw [hc]; simp; omega
    clear hst hs hc
    have c0 := T2.c0
    have c1 := T2.c1
    have c2 := T2.c2
    have c3 := T2.c3
    have c4 := T2.c4
    have g0 := Z2.c0
    have g1 := Z2.c1
    have g2 := Z2.c2
    have g3 := Z2.c3
    have g4 := Z2.c4
    have f0 := Z2.f 0
    have f1 := Z2.f 1
    have f2 := Z2.f 2
    have f3 := Z2.f 3
    have f4 := Z2.f 4
    go_wp2_with fail
    clear c0 c1 c2 c3 c4 f0 f1 f2 f3 f4 g0 g1 g2 g3 g4
    change bodyPost _ _ _ _ _ (setFive w3 (w.heap.size + 1) ((t + d) % 65536) m r q k)
    have SF := StateAt.five (Z2) ((t + d) % 65536) m r q k
    have BF := below_two' (B2) (below_five (B := w.heap.size) (w := w3) (b := w.heap.size + 1) (by omega) ((t + d) % 65536) m r q k)
    generalize setFive w3 (w.heap.size + 1) ((t + d) % 65536) m r q k = wz at SF BF ⊢
    have e0 := SF.c0
    have e1 := SF.c1
    have e2 := SF.c2
    have e3 := SF.c3
    have e4 := SF.c4
    exact bodyPost_ret (v := .tuple #[.agg #[.int .i64 ((t + d) % 65536), .int .i64 m, .int .i64 r, .int .i64 q, .int .i64 k], .int .i64 0]) (by simp [results, Tryz.results130, go_sem, e0, e1, e2, e3, e4]) rfl ⟨by simp only [HST.out], BF⟩
end
set_option maxHeartbeats 1000000 in
theorem advanceState_any (t m r s k d slots rounds : Int) (w : World) :
    Calls Tryz.prog 130 #[.agg #[.int .i64 t, .int .i64 m, .int .i64 r, .int .i64 s, .int .i64 k], .int .i64 d, .int .i64 slots, .int .i64 rounds] w (GivesState2 w (advanced t m r s k d slots rounds)) := by
  rcases hA : isState t m r s k with _ | _
  · rw [ad_1 hA]
    have HA := Lib.hid hA; clear hA
    go_enter Tryz.func130, Tryz.ntmps130
    go_wp2_with fail
    refine (isState_any _ _ _ _ _ _).mono ?_
    rintro e w1 ⟨rfl, b1⟩
    rw [HA.out]
    obtain ⟨S1, S2⟩ := state_new2 b1
    have HZ := Lib.hid b1; clear b1
    have c0 := S2.c0
    have c1 := S2.c1
    have c2 := S2.c2
    have c3 := S2.c3
    have c4 := S2.c4
    have f0 := S2.f 0
    have f1 := S2.f 1
    have f2 := S2.f 2
    have f3 := S2.f 3
    have f4 := S2.f 4
    have HS := Lib.hid S2; clear S1 S2
    go_wp2_with fail
    clear c0 c1 c2 c3 c4 f0 f1 f2 f3 f4
    change bodyPost _ _ _ _ _ (setFive w1 (w.heap.size + 1) 0 0 0 0 0)
    have SF := StateAt.five (HS.out) 0 0 0 0 0
    have BF := below_two' (below_box2 HZ.out) (below_five (B := w.heap.size) (w := w1) (b := w.heap.size + 1) (by omega) 0 0 0 0 0)
    generalize setFive w1 (w.heap.size + 1) 0 0 0 0 0 = wz at SF BF ⊢
    have e0 := SF.c0
    have e1 := SF.c1
    have e2 := SF.c2
    have e3 := SF.c3
    have e4 := SF.c4
    exact bodyPost_ret (v := .tuple #[.agg #[.int .i64 0, .int .i64 0, .int .i64 0, .int .i64 0, .int .i64 0], .int .i64 1]) (by simp [results, Tryz.results130, go_sem, e0, e1, e2, e3, e4]) rfl ⟨rfl, BF⟩
  have HA := Lib.hid hA
  by_cases h0 : d < 0
  · rw [ad_2 hA (may_not (by omega))]
    clear hA
    go_enter Tryz.func130, Tryz.ntmps130
    go_wp2_with fail
    refine (isState_any _ _ _ _ _ _).mono ?_
    rintro e w1 ⟨rfl, b1⟩
    rw [HA.out]
    obtain ⟨S1, S2⟩ := state_new2 b1
    have HZ := Lib.hid b1; clear b1
    have c0 := S2.c0
    have c1 := S2.c1
    have c2 := S2.c2
    have c3 := S2.c3
    have c4 := S2.c4
    have f0 := S2.f 0
    have f1 := S2.f 1
    have f2 := S2.f 2
    have f3 := S2.f 3
    have f4 := S2.f 4
    have HS := Lib.hid S2; clear S1 S2
    go_wp2_with fail
    clear c0 c1 c2 c3 c4 f0 f1 f2 f3 f4
    change bodyPost _ _ _ _ _ (setFive w1 (w.heap.size + 1) 0 0 0 0 0)
    have SF := StateAt.five (HS.out) 0 0 0 0 0
    have BF := below_two' (below_box2 HZ.out) (below_five (B := w.heap.size) (w := w1) (b := w.heap.size + 1) (by omega) 0 0 0 0 0)
    generalize setFive w1 (w.heap.size + 1) 0 0 0 0 0 = wz at SF BF ⊢
    have e0 := SF.c0
    have e1 := SF.c1
    have e2 := SF.c2
    have e3 := SF.c3
    have e4 := SF.c4
    exact bodyPost_ret (v := .tuple #[.agg #[.int .i64 0, .int .i64 0, .int .i64 0, .int .i64 0, .int .i64 0], .int .i64 2]) (by simp [results, Tryz.results130, go_sem, e0, e1, e2, e3, e4]) rfl ⟨rfl, BF⟩
  by_cases h1 : 65535 < d
  · rw [ad_2 hA (may_not (by omega))]
    clear hA
    go_enter Tryz.func130, Tryz.ntmps130
    go_wp2_with fail
    refine (isState_any _ _ _ _ _ _).mono ?_
    rintro e w1 ⟨rfl, b1⟩
    rw [HA.out]
    obtain ⟨S1, S2⟩ := state_new2 b1
    have HZ := Lib.hid b1; clear b1
    have c0 := S2.c0
    have c1 := S2.c1
    have c2 := S2.c2
    have c3 := S2.c3
    have c4 := S2.c4
    have f0 := S2.f 0
    have f1 := S2.f 1
    have f2 := S2.f 2
    have f3 := S2.f 3
    have f4 := S2.f 4
    have HS := Lib.hid S2; clear S1 S2
    go_wp2_with fail
    clear c0 c1 c2 c3 c4 f0 f1 f2 f3 f4
    change bodyPost _ _ _ _ _ (setFive w1 (w.heap.size + 1) 0 0 0 0 0)
    have SF := StateAt.five (HS.out) 0 0 0 0 0
    have BF := below_two' (below_box2 HZ.out) (below_five (B := w.heap.size) (w := w1) (b := w.heap.size + 1) (by omega) 0 0 0 0 0)
    generalize setFive w1 (w.heap.size + 1) 0 0 0 0 0 = wz at SF BF ⊢
    have e0 := SF.c0
    have e1 := SF.c1
    have e2 := SF.c2
    have e3 := SF.c3
    have e4 := SF.c4
    exact bodyPost_ret (v := .tuple #[.agg #[.int .i64 0, .int .i64 0, .int .i64 0, .int .i64 0, .int .i64 0], .int .i64 2]) (by simp [results, Tryz.results130, go_sem, e0, e1, e2, e3, e4]) rfl ⟨rfl, BF⟩
  by_cases h2 : 256 < slots
  · rw [ad_2 hA (may_not (by omega))]
    clear hA
    go_enter Tryz.func130, Tryz.ntmps130
    go_wp2_with fail
    refine (isState_any _ _ _ _ _ _).mono ?_
    rintro e w1 ⟨rfl, b1⟩
    rw [HA.out]
    obtain ⟨S1, S2⟩ := state_new2 b1
    have HZ := Lib.hid b1; clear b1
    have c0 := S2.c0
    have c1 := S2.c1
    have c2 := S2.c2
    have c3 := S2.c3
    have c4 := S2.c4
    have f0 := S2.f 0
    have f1 := S2.f 1
    have f2 := S2.f 2
    have f3 := S2.f 3
    have f4 := S2.f 4
    have HS := Lib.hid S2; clear S1 S2
    go_wp2_with fail
    clear c0 c1 c2 c3 c4 f0 f1 f2 f3 f4
    change bodyPost _ _ _ _ _ (setFive w1 (w.heap.size + 1) 0 0 0 0 0)
    have SF := StateAt.five (HS.out) 0 0 0 0 0
    have BF := below_two' (below_box2 HZ.out) (below_five (B := w.heap.size) (w := w1) (b := w.heap.size + 1) (by omega) 0 0 0 0 0)
    generalize setFive w1 (w.heap.size + 1) 0 0 0 0 0 = wz at SF BF ⊢
    have e0 := SF.c0
    have e1 := SF.c1
    have e2 := SF.c2
    have e3 := SF.c3
    have e4 := SF.c4
    exact bodyPost_ret (v := .tuple #[.agg #[.int .i64 0, .int .i64 0, .int .i64 0, .int .i64 0, .int .i64 0], .int .i64 2]) (by simp [results, Tryz.results130, go_sem, e0, e1, e2, e3, e4]) rfl ⟨rfl, BF⟩
  by_cases h3 : 16 < rounds
  · rw [ad_2 hA (may_not (by omega))]
    clear hA
    go_enter Tryz.func130, Tryz.ntmps130
    go_wp2_with fail
    refine (isState_any _ _ _ _ _ _).mono ?_
    rintro e w1 ⟨rfl, b1⟩
    rw [HA.out]
    obtain ⟨S1, S2⟩ := state_new2 b1
    have HZ := Lib.hid b1; clear b1
    have c0 := S2.c0
    have c1 := S2.c1
    have c2 := S2.c2
    have c3 := S2.c3
    have c4 := S2.c4
    have f0 := S2.f 0
    have f1 := S2.f 1
    have f2 := S2.f 2
    have f3 := S2.f 3
    have f4 := S2.f 4
    have HS := Lib.hid S2; clear S1 S2
    go_wp2_with fail
    clear c0 c1 c2 c3 c4 f0 f1 f2 f3 f4
    change bodyPost _ _ _ _ _ (setFive w1 (w.heap.size + 1) 0 0 0 0 0)
    have SF := StateAt.five (HS.out) 0 0 0 0 0
    have BF := below_two' (below_box2 HZ.out) (below_five (B := w.heap.size) (w := w1) (b := w.heap.size + 1) (by omega) 0 0 0 0 0)
    generalize setFive w1 (w.heap.size + 1) 0 0 0 0 0 = wz at SF BF ⊢
    have e0 := SF.c0
    have e1 := SF.c1
    have e2 := SF.c2
    have e3 := SF.c3
    have e4 := SF.c4
    exact bodyPost_ret (v := .tuple #[.agg #[.int .i64 0, .int .i64 0, .int .i64 0, .int .i64 0, .int .i64 0], .int .i64 2]) (by simp [results, Tryz.results130, go_sem, e0, e1, e2, e3, e4]) rfl ⟨rfl, BF⟩
  by_cases h4 : slots ≤ s
  · rw [ad_2 hA (may_not (by omega))]
    clear hA
    go_enter Tryz.func130, Tryz.ntmps130
    go_wp2_with fail
    refine (isState_any _ _ _ _ _ _).mono ?_
    rintro e w1 ⟨rfl, b1⟩
    rw [HA.out]
    obtain ⟨S1, S2⟩ := state_new2 b1
    have HZ := Lib.hid b1; clear b1
    have d2 := S1.c2
    have d3 := S1.c3
    have c0 := S2.c0
    have c1 := S2.c1
    have c2 := S2.c2
    have c3 := S2.c3
    have c4 := S2.c4
    have f0 := S2.f 0
    have f1 := S2.f 1
    have f2 := S2.f 2
    have f3 := S2.f 3
    have f4 := S2.f 4
    have HS := Lib.hid S2; clear S1 S2
    go_wp2_with fail
    clear c0 c1 c2 c3 c4 f0 f1 f2 f3 f4 d2 d3
    change bodyPost _ _ _ _ _ (setFive w1 (w.heap.size + 1) 0 0 0 0 0)
    have SF := StateAt.five (HS.out) 0 0 0 0 0
    have BF := below_two' (below_box2 HZ.out) (below_five (B := w.heap.size) (w := w1) (b := w.heap.size + 1) (by omega) 0 0 0 0 0)
    generalize setFive w1 (w.heap.size + 1) 0 0 0 0 0 = wz at SF BF ⊢
    have e0 := SF.c0
    have e1 := SF.c1
    have e2 := SF.c2
    have e3 := SF.c3
    have e4 := SF.c4
    exact bodyPost_ret (v := .tuple #[.agg #[.int .i64 0, .int .i64 0, .int .i64 0, .int .i64 0, .int .i64 0], .int .i64 2]) (by simp [results, Tryz.results130, go_sem, e0, e1, e2, e3, e4]) rfl ⟨rfl, BF⟩
  by_cases h5 : rounds ≤ r
  · rw [ad_2 hA (may_not (by omega))]
    clear hA
    go_enter Tryz.func130, Tryz.ntmps130
    go_wp2_with fail
    refine (isState_any _ _ _ _ _ _).mono ?_
    rintro e w1 ⟨rfl, b1⟩
    rw [HA.out]
    obtain ⟨S1, S2⟩ := state_new2 b1
    have HZ := Lib.hid b1; clear b1
    have d2 := S1.c2
    have d3 := S1.c3
    have c0 := S2.c0
    have c1 := S2.c1
    have c2 := S2.c2
    have c3 := S2.c3
    have c4 := S2.c4
    have f0 := S2.f 0
    have f1 := S2.f 1
    have f2 := S2.f 2
    have f3 := S2.f 3
    have f4 := S2.f 4
    have HS := Lib.hid S2; clear S1 S2
    go_wp2_with fail
    clear c0 c1 c2 c3 c4 f0 f1 f2 f3 f4 d2 d3
    change bodyPost _ _ _ _ _ (setFive w1 (w.heap.size + 1) 0 0 0 0 0)
    have SF := StateAt.five (HS.out) 0 0 0 0 0
    have BF := below_two' (below_box2 HZ.out) (below_five (B := w.heap.size) (w := w1) (b := w.heap.size + 1) (by omega) 0 0 0 0 0)
    generalize setFive w1 (w.heap.size + 1) 0 0 0 0 0 = wz at SF BF ⊢
    have e0 := SF.c0
    have e1 := SF.c1
    have e2 := SF.c2
    have e3 := SF.c3
    have e4 := SF.c4
    exact bodyPost_ret (v := .tuple #[.agg #[.int .i64 0, .int .i64 0, .int .i64 0, .int .i64 0, .int .i64 0], .int .i64 2]) (by simp [results, Tryz.results130, go_sem, e0, e1, e2, e3, e4]) rfl ⟨rfl, BF⟩
  exact advanceState_good hA ⟨by omega, by omega⟩ (by omega) (by omega) (by omega) (by omega) w
end
section
open Go.RowKit
section
variable {t m r s k d slots rounds : Int}
theorem l04Advance_any (hA : isState t m r s k = true) (h0 : 0 ≤ d ∧ d ≤ 65535) (_h4 : s < slots) (h5 : r < rounds) (_h6 : slots ≤ 256) (_h7 : rounds ≤ 16) (w : World) :
    Calls Tryz.prog 132 #[.agg #[.int .i64 t, .int .i64 m, .int .i64 r, .int .i64 s, .int .i64 k], .int .i64 d, .int .i64 slots, .int .i64 rounds] w (GivesState w ((t + d) % 65536) m (stepRS slots rounds r s).1 (stepRS slots rounds r s).2 k) := by
  obtain ⟨⟨t0, t1⟩, -, ⟨r0, r1⟩, ⟨s0, s1⟩, -⟩ := isState_iff.1 hA
  obtain ⟨h0, h1⟩ := h0
  clear hA
  by_cases hs : s + 1 = slots
  · have hst : stepRS slots rounds r s = ((r + 1) % rounds, 0) := by unfold stepRS; rw [if_pos hs]
    rw [hst]
    have hb : (s + 1 == slots) = true := by simp [hs]
    clear hst hs
    go_enter Tryz.func132, Tryz.ntmps132
    go_wp2
    exact bodyPost_ret (v := .agg #[.int .i64 ((t + d) % 65536), .int .i64 m, .int .i64 ((r + 1) % rounds), .int .i64 0, .int .i64 k]) (by simp [results, Tryz.results132, go_sem]) rfl ⟨rfl, (((Below.refl _ _).alloc (Nat.le_refl _) _).alloc (by simp) _).alloc (by simp; omega) _⟩
  · have hst : stepRS slots rounds r s = (r, s + 1) := by unfold stepRS; rw [if_neg hs]
    rw [hst]
    have hb : (s + 1 == slots) = false := by simp [hs]
    clear hst hs
    go_enter Tryz.func132, Tryz.ntmps132
    go_wp2
    exact bodyPost_ret (v := .agg #[.int .i64 ((t + d) % 65536), .int .i64 m, .int .i64 r, .int .i64 (s + 1), .int .i64 k]) (by simp [results, Tryz.results132, go_sem]) rfl ⟨rfl, (((Below.refl _ _).alloc (Nat.le_refl _) _).alloc (by simp) _).alloc (by simp; omega) _⟩
end
end
section
open Go.RowKit
end
section
open Go.RowKit
end
section
open Go.RowKit
theorem Rd.rest {w : World} {ao : Option Addr} {n : Nat} {xs : List Int} (h : Rd w ao n xs) {a : Nat} (ha : a ≤ n) : Rd w (Option.map (fun x => x.add a) ao) (n - a) (xs.drop a) := by
  have h1 := h.slice (a := a) (k := n - a) (by omega)
  rwa [List.take_of_length_le (by rw [List.length_drop, h.len]; exact Nat.le_refl _)] at h1
theorem Rd.first {w : World} {ao : Option Addr} {n : Nat} {xs : List Int} (h : Rd w ao n xs) {a : Nat} (ha : a ≤ n) : Rd w ao a (xs.take a) := by
  have hl := h.len
  refine ⟨by rw [List.length_take]; omega, fun h0 => ?_⟩
  obtain ⟨b, off, rfl, hc⟩ := h.here (by omega)
  exact ⟨b, off, rfl, fun i hi => by rw [hc i (by omega)]; simp [List.getD, hi]⟩
end
section
open Go.RowKit
end
end

section
section
open Go.RowKit
def kindVal (a : Int) : Value := if a = 0 then .iface 241 (.agg #[]) else if a = 1 then .iface 242 (.agg #[]) else if a = 2 then .iface 243 (.agg #[]) else if a = 3 then .iface 244 (.agg #[]) else .nilIface
theorem kindVal_none {a : Int} (h0 : a ≠ 0) (h1 : a ≠ 1) (h2 : a ≠ 2) (h3 : a ≠ 3) : kindVal a = .nilIface := by simp [kindVal, h0, h1, h2, h3]
theorem kindOk_none {a : Int} (h0 : a ≠ 0) (h1 : a ≠ 1) (h2 : a ≠ 2) (h3 : a ≠ 3) : kindOk a = false := by
  cases h : kindOk a
  · rfl
  · have := kindOk_four h; omega
theorem frameKindOf_any (a : Int) (w : World) : Calls Tryz.prog 183 #[.int .i64 a] w fun e w' => e = .returned (.tuple #[kindVal a, .bool (kindOk a)]) ∧ w = w' := by
  by_cases h0 : a = 0
  · subst h0
    go_enter Tryz.func183, Tryz.ntmps183
    go_wp2
    go_ret2
    exact ⟨rfl, rfl⟩
  by_cases h1 : a = 1
  · subst h1
    go_enter Tryz.func183, Tryz.ntmps183
    go_wp2
    go_ret2
    exact ⟨rfl, rfl⟩
  by_cases h2 : a = 2
  · subst h2
    go_enter Tryz.func183, Tryz.ntmps183
    go_wp2
    go_ret2
    exact ⟨rfl, rfl⟩
  by_cases h3 : a = 3
  · subst h3
    go_enter Tryz.func183, Tryz.ntmps183
    go_wp2
    go_ret2
    exact ⟨rfl, rfl⟩
  rw [kindVal_none h0 h1 h2 h3, kindOk_none h0 h1 h2 h3]
  have t0 : (a == 0) = false := by simp [h0]
  have t1 : (a == 1) = false := by simp [h1]
  have t2 : (a == 2) = false := by simp [h2]
  have t3 : (a == 3) = false := by simp [h3]
  clear h0 h1 h2 h3
  go_enter Tryz.func183, Tryz.ntmps183
  go_wp2
  go_ret2
  exact ⟨rfl, rfl⟩
theorem layoutOf_any (a : Int) (w : World) : Calls Tryz.prog 185 #[kindVal a] w fun e w' => e = .returned (.tuple #[.bool (hasState a), .bool (hasData a)]) ∧ w = w' := by
  by_cases h0 : a = 0
  · subst h0
    have q0 : ∀ w : World, (Instr.typeAssert (.iface 241 (.agg #[])) 217 241 true).run Tryz.prog w = .ok (.tuple #[.agg #[], .bool true]) w := fun _ => by kernel_rfl
    have q1 : ∀ w : World, (Instr.typeAssert (.iface 241 (.agg #[])) 217 242 true).run Tryz.prog w = .ok (.tuple #[.agg #[], .bool false]) w := fun _ => by kernel_rfl
    have q2 : ∀ w : World, (Instr.typeAssert (.iface 241 (.agg #[])) 217 243 true).run Tryz.prog w = .ok (.tuple #[.agg #[], .bool false]) w := fun _ => by kernel_rfl
    have q3 : ∀ w : World, (Instr.typeAssert (.iface 241 (.agg #[])) 217 244 true).run Tryz.prog w = .ok (.tuple #[.agg #[], .bool false]) w := fun _ => by kernel_rfl
    rw [show kindVal 0 = .iface 241 (.agg #[]) from rfl]
    go_enter Tryz.func185, Tryz.ntmps185
    go_wp2
    go_ret2
    exact ⟨rfl, rfl⟩
  by_cases h1 : a = 1
  · subst h1
    have q0 : ∀ w : World, (Instr.typeAssert (.iface 242 (.agg #[])) 217 241 true).run Tryz.prog w = .ok (.tuple #[.agg #[], .bool false]) w := fun _ => by kernel_rfl
    have q1 : ∀ w : World, (Instr.typeAssert (.iface 242 (.agg #[])) 217 242 true).run Tryz.prog w = .ok (.tuple #[.agg #[], .bool true]) w := fun _ => by kernel_rfl
    have q2 : ∀ w : World, (Instr.typeAssert (.iface 242 (.agg #[])) 217 243 true).run Tryz.prog w = .ok (.tuple #[.agg #[], .bool false]) w := fun _ => by kernel_rfl
    have q3 : ∀ w : World, (Instr.typeAssert (.iface 242 (.agg #[])) 217 244 true).run Tryz.prog w = .ok (.tuple #[.agg #[], .bool false]) w := fun _ => by kernel_rfl
    rw [show kindVal 1 = .iface 242 (.agg #[]) from rfl]
    go_enter Tryz.func185, Tryz.ntmps185
    go_wp2
    go_ret2
    exact ⟨rfl, rfl⟩
  by_cases h2 : a = 2
  · subst h2
    have q0 : ∀ w : World, (Instr.typeAssert (.iface 243 (.agg #[])) 217 241 true).run Tryz.prog w = .ok (.tuple #[.agg #[], .bool false]) w := fun _ => by kernel_rfl
    have q1 : ∀ w : World, (Instr.typeAssert (.iface 243 (.agg #[])) 217 242 true).run Tryz.prog w = .ok (.tuple #[.agg #[], .bool false]) w := fun _ => by kernel_rfl
    have q2 : ∀ w : World, (Instr.typeAssert (.iface 243 (.agg #[])) 217 243 true).run Tryz.prog w = .ok (.tuple #[.agg #[], .bool true]) w := fun _ => by kernel_rfl
    have q3 : ∀ w : World, (Instr.typeAssert (.iface 243 (.agg #[])) 217 244 true).run Tryz.prog w = .ok (.tuple #[.agg #[], .bool false]) w := fun _ => by kernel_rfl
    rw [show kindVal 2 = .iface 243 (.agg #[]) from rfl]
    go_enter Tryz.func185, Tryz.ntmps185
    go_wp2
    go_ret2
    exact ⟨rfl, rfl⟩
  by_cases h3 : a = 3
  · subst h3
    have q0 : ∀ w : World, (Instr.typeAssert (.iface 244 (.agg #[])) 217 241 true).run Tryz.prog w = .ok (.tuple #[.agg #[], .bool false]) w := fun _ => by kernel_rfl
    have q1 : ∀ w : World, (Instr.typeAssert (.iface 244 (.agg #[])) 217 242 true).run Tryz.prog w = .ok (.tuple #[.agg #[], .bool false]) w := fun _ => by kernel_rfl
    have q2 : ∀ w : World, (Instr.typeAssert (.iface 244 (.agg #[])) 217 243 true).run Tryz.prog w = .ok (.tuple #[.agg #[], .bool false]) w := fun _ => by kernel_rfl
    have q3 : ∀ w : World, (Instr.typeAssert (.iface 244 (.agg #[])) 217 244 true).run Tryz.prog w = .ok (.tuple #[.agg #[], .bool true]) w := fun _ => by kernel_rfl
    rw [show kindVal 3 = .iface 244 (.agg #[]) from rfl]
    go_enter Tryz.func185, Tryz.ntmps185
    go_wp2
    go_ret2
    exact ⟨rfl, rfl⟩
  rw [kindVal_none h0 h1 h2 h3]
  have e1 : hasState a = false := by simp [hasState, kindOk_none h0 h1 h2 h3]
  have e2 : hasData a = false := by simp [hasData, h0, h2]
  rw [e1, e2]
  clear h0 h1 h2 h3
  have q0 : ∀ w : World, (Instr.typeAssert .nilIface 217 241 true).run Tryz.prog w = .ok (.tuple #[.agg #[], .bool false]) w := fun _ => by kernel_rfl
  have q1 : ∀ w : World, (Instr.typeAssert .nilIface 217 242 true).run Tryz.prog w = .ok (.tuple #[.agg #[], .bool false]) w := fun _ => by kernel_rfl
  have q2 : ∀ w : World, (Instr.typeAssert .nilIface 217 243 true).run Tryz.prog w = .ok (.tuple #[.agg #[], .bool false]) w := fun _ => by kernel_rfl
  have q3 : ∀ w : World, (Instr.typeAssert .nilIface 217 244 true).run Tryz.prog w = .ok (.tuple #[.agg #[], .bool false]) w := fun _ => by kernel_rfl
  go_enter Tryz.func185, Tryz.ntmps185
  go_wp2
  go_ret2
  exact ⟨rfl, rfl⟩
end
section
open Go.RowKit
theorem limits0_any (w : World) : Calls Tryz.prog 286 #[.agg #[]] w fun e w' => e = .returned (.tuple #[.int .i64 0, .int .i64 32]) ∧ w' = w.alloc (.cells #[] 241) := by
  go_enter Tryz.func286, Tryz.ntmps286
  go_wp2
  go_ret2
  exact ⟨rfl, rfl⟩
theorem limits1_any (w : World) : Calls Tryz.prog 289 #[.agg #[]] w fun e w' => e = .returned (.tuple #[.int .i64 0, .int .i64 0]) ∧ w' = w.alloc (.cells #[] 242) := by
  go_enter Tryz.func289, Tryz.ntmps289
  go_wp2
  go_ret2
  exact ⟨rfl, rfl⟩
theorem limits2_any (w : World) : Calls Tryz.prog 292 #[.agg #[]] w fun e w' => e = .returned (.tuple #[.int .i64 1, .int .i64 32]) ∧ w' = w.alloc (.cells #[] 243) := by
  go_enter Tryz.func292, Tryz.ntmps292
  go_wp2
  go_ret2
  exact ⟨rfl, rfl⟩
theorem limits3_any (w : World) : Calls Tryz.prog 295 #[.agg #[]] w fun e w' => e = .returned (.tuple #[.int .i64 0, .int .i64 0]) ∧ w' = w.alloc (.cells #[] 244) := by
  go_enter Tryz.func295, Tryz.ntmps295
  go_wp2
  go_ret2
  exact ⟨rfl, rfl⟩
theorem hasDataSize0 (n : Int) (w : World) : Calls Tryz.prog 184 #[kindVal 0, .int .i64 n] w fun e w' => e = .returned (.bool (sizeOk 0 n)) ∧ Below w.heap.size w w' := by
  rw [show kindVal 0 = .iface 241 (.agg #[]) from rfl]
  have ha : ∀ w : World, (nilAhead 389 241 (.agg #[]) "loop.example/g00833/impl.dataLimits").run Tryz.prog w = .ok (some false) w := fun _ => by kernel_rfl
  have hm : ∀ w : World, (method 389 241 (.agg #[]) "loop.example/g00833/impl.dataLimits").run Tryz.prog w = .ok (286, .agg #[]) w := fun _ => by kernel_rfl
  have hs : (decide (0 ≤ n) && decide (n ≤ 32)) = sizeOk 0 n := by rfl
  rw [← hs]; clear hs
  by_cases h0 : 0 ≤ n
  · go_enter Tryz.func184, Tryz.ntmps184
    go_wp2_with (go_at_call 286; refine (limits0_any _).mono ?_; rintro e w1 ⟨rfl, rfl⟩)
    go_ret
    exact ⟨by simp [h0], (Below.refl _ _).alloc (Nat.le_refl _) _⟩
  · go_enter Tryz.func184, Tryz.ntmps184
    go_wp2_with (go_at_call 286; refine (limits0_any _).mono ?_; rintro e w1 ⟨rfl, rfl⟩)
    go_ret
    exact ⟨by rw [show decide (0 ≤ n) = false from decide_eq_false (by omega)]; rfl, (Below.refl _ _).alloc (Nat.le_refl _) _⟩
theorem hasDataSize1 (n : Int) (w : World) : Calls Tryz.prog 184 #[kindVal 1, .int .i64 n] w fun e w' => e = .returned (.bool (sizeOk 1 n)) ∧ Below w.heap.size w w' := by
  rw [show kindVal 1 = .iface 242 (.agg #[]) from rfl]
  have ha : ∀ w : World, (nilAhead 389 242 (.agg #[]) "loop.example/g00833/impl.dataLimits").run Tryz.prog w = .ok (some false) w := fun _ => by kernel_rfl
  have hm : ∀ w : World, (method 389 242 (.agg #[]) "loop.example/g00833/impl.dataLimits").run Tryz.prog w = .ok (289, .agg #[]) w := fun _ => by kernel_rfl
  have hs : (decide (0 ≤ n) && decide (n ≤ 0)) = sizeOk 1 n := by unfold sizeOk; rw [if_neg (by omega), if_neg (by omega), Bool.eq_iff_iff]; simp only [Bool.and_eq_true, decide_eq_true_eq]; omega
  rw [← hs]; clear hs
  by_cases h0 : 0 ≤ n
  · go_enter Tryz.func184, Tryz.ntmps184
    go_wp2_with (go_at_call 289; refine (limits1_any _).mono ?_; rintro e w1 ⟨rfl, rfl⟩)
    go_ret
    exact ⟨by simp [h0], (Below.refl _ _).alloc (Nat.le_refl _) _⟩
  · go_enter Tryz.func184, Tryz.ntmps184
    go_wp2_with (go_at_call 289; refine (limits1_any _).mono ?_; rintro e w1 ⟨rfl, rfl⟩)
    go_ret
    exact ⟨by rw [show decide (0 ≤ n) = false from decide_eq_false (by omega)]; rfl, (Below.refl _ _).alloc (Nat.le_refl _) _⟩
theorem hasDataSize2 (n : Int) (w : World) : Calls Tryz.prog 184 #[kindVal 2, .int .i64 n] w fun e w' => e = .returned (.bool (sizeOk 2 n)) ∧ Below w.heap.size w w' := by
  rw [show kindVal 2 = .iface 243 (.agg #[]) from rfl]
  have ha : ∀ w : World, (nilAhead 389 243 (.agg #[]) "loop.example/g00833/impl.dataLimits").run Tryz.prog w = .ok (some false) w := fun _ => by kernel_rfl
  have hm : ∀ w : World, (method 389 243 (.agg #[]) "loop.example/g00833/impl.dataLimits").run Tryz.prog w = .ok (292, .agg #[]) w := fun _ => by kernel_rfl
  have hs : (decide (1 ≤ n) && decide (n ≤ 32)) = sizeOk 2 n := by rfl
  rw [← hs]; clear hs
  by_cases h0 : 1 ≤ n
  · go_enter Tryz.func184, Tryz.ntmps184
    go_wp2_with (go_at_call 292; refine (limits2_any _).mono ?_; rintro e w1 ⟨rfl, rfl⟩)
    go_ret
    exact ⟨by simp [h0], (Below.refl _ _).alloc (Nat.le_refl _) _⟩
  · go_enter Tryz.func184, Tryz.ntmps184
    go_wp2_with (go_at_call 292; refine (limits2_any _).mono ?_; rintro e w1 ⟨rfl, rfl⟩)
    go_ret
    exact ⟨by rw [show decide (1 ≤ n) = false from decide_eq_false (by omega)]; rfl, (Below.refl _ _).alloc (Nat.le_refl _) _⟩
theorem hasDataSize3 (n : Int) (w : World) : Calls Tryz.prog 184 #[kindVal 3, .int .i64 n] w fun e w' => e = .returned (.bool (sizeOk 3 n)) ∧ Below w.heap.size w w' := by
  rw [show kindVal 3 = .iface 244 (.agg #[]) from rfl]
  have ha : ∀ w : World, (nilAhead 389 244 (.agg #[]) "loop.example/g00833/impl.dataLimits").run Tryz.prog w = .ok (some false) w := fun _ => by kernel_rfl
  have hm : ∀ w : World, (method 389 244 (.agg #[]) "loop.example/g00833/impl.dataLimits").run Tryz.prog w = .ok (295, .agg #[]) w := fun _ => by kernel_rfl
  have hs : (decide (0 ≤ n) && decide (n ≤ 0)) = sizeOk 3 n := by unfold sizeOk; rw [if_neg (by omega), if_neg (by omega), Bool.eq_iff_iff]; simp only [Bool.and_eq_true, decide_eq_true_eq]; omega
  rw [← hs]; clear hs
  by_cases h0 : 0 ≤ n
  · go_enter Tryz.func184, Tryz.ntmps184
    go_wp2_with (go_at_call 295; refine (limits3_any _).mono ?_; rintro e w1 ⟨rfl, rfl⟩)
    go_ret
    exact ⟨by simp [h0], (Below.refl _ _).alloc (Nat.le_refl _) _⟩
  · go_enter Tryz.func184, Tryz.ntmps184
    go_wp2_with (go_at_call 295; refine (limits3_any _).mono ?_; rintro e w1 ⟨rfl, rfl⟩)
    go_ret
    exact ⟨by rw [show decide (0 ≤ n) = false from decide_eq_false (by omega)]; rfl, (Below.refl _ _).alloc (Nat.le_refl _) _⟩
theorem hasDataSize_any (a n : Int) (w : World) (hk : kindOk a = true) : Calls Tryz.prog 184 #[kindVal a, .int .i64 n] w fun e w' => e = .returned (.bool (sizeOk a n)) ∧ Below w.heap.size w w' := by
  rcases kindOk_four hk with rfl | rfl | rfl | rfl
  · exact hasDataSize0 n w
  · exact hasDataSize1 n w
  · exact hasDataSize2 n w
  · exact hasDataSize3 n w
theorem bs_1 {a n : Int} (h : kindOk a = false) : bodySize a n = (0, 1) := by unfold bodySize; rw [if_pos h]
theorem bs_2 {a n : Int} (h : kindOk a = true) (h2 : sizeOk a n = false) : bodySize a n = (0, 2) := by unfold bodySize; rw [if_neg (by simp [h]), if_pos h2]
theorem bs_0 {a n : Int} (h : kindOk a = true) (h2 : sizeOk a n = true) : bodySize a n = (1 + (if hasState a = true then 8 else 0) + (if hasData a = true then 1 + n else 0), 0) := by unfold bodySize; rw [if_neg (by simp [h]), if_neg (by simp [h2])]
theorem bodySize_any (a n : Int) (w : World) : Calls Tryz.prog 148 #[.int .i64 a, .int .i64 n] w fun e w' => e = .returned (.tuple #[.int .i64 (bodySize a n).1, .int .i64 (bodySize a n).2]) ∧ Below w.heap.size w w' := by
  rcases hk : kindOk a with _ | _
  · rw [bs_1 hk]
    have hl := kindVal a
    go_enter Tryz.func148, Tryz.ntmps148
    go_wp2_with (go_at_call 183; refine (frameKindOf_any _ _).mono ?_; rintro e w1 ⟨rfl, rfl⟩; rw [hk])
    go_ret2
    exact ⟨rfl, Below.refl _ _⟩
  rcases hs : sizeOk a n with _ | _
  · rw [bs_2 hk hs]
    have HK := Lib.hid hk; have HS := Lib.hid hs; clear hk hs
    go_enter Tryz.func148, Tryz.ntmps148
    go_wp2_with (first | (go_at_call 183; refine (frameKindOf_any _ _).mono ?_; rintro e w1 ⟨rfl, rfl⟩; rw [HK.out]) | (go_at_call 184; refine (hasDataSize_any _ _ _ HK.out).mono ?_; rintro e w2 ⟨rfl, b2⟩; rw [HS.out]))
    go_ret2
    exact ⟨rfl, b2⟩
  have hn := sizeOk_le hs
  rw [bs_0 hk hs]
  have HK := Lib.hid hk; have HS := Lib.hid hs; clear hk hs
  have hw : IntKind.i64.wrap (1 + n) = 1 + n := by rw [IntKind.wrap_i64]; omega
  have hw1 : IntKind.i64.wrap (1 + (1 + n)) = 1 + (1 + n) := by rw [IntKind.wrap_i64]; omega
  have hw2 : IntKind.i64.wrap (9 + (1 + n)) = 9 + (1 + n) := by rw [IntKind.wrap_i64]; omega
  obtain ⟨x, hx⟩ : ∃ x, hasState a = x := ⟨_, rfl⟩
  obtain ⟨y, hy⟩ : ∃ y, hasData a = y := ⟨_, rfl⟩
  rw [hx, hy]
  have HX := Lib.hid hx; have HY := Lib.hid hy; clear hx hy
  cases x <;> cases y
  · go_enter Tryz.func148, Tryz.ntmps148
    go_wp2_with (first | (go_at_call 183; refine (frameKindOf_any _ _).mono ?_; rintro e w1 ⟨rfl, rfl⟩; rw [HK.out]) | (go_at_call 184; refine (hasDataSize_any _ _ _ HK.out).mono ?_; rintro e w2 ⟨rfl, b2⟩; rw [HS.out]) | (go_at_call 185; refine (layoutOf_any _ _).mono ?_; rintro e w3 ⟨rfl, rfl⟩; rw [HX.out, HY.out]))
    go_ret2
    exact ⟨by rfl, b2⟩
  · go_enter Tryz.func148, Tryz.ntmps148
    go_wp2_with (first | (go_at_call 183; refine (frameKindOf_any _ _).mono ?_; rintro e w1 ⟨rfl, rfl⟩; rw [HK.out]) | (go_at_call 184; refine (hasDataSize_any _ _ _ HK.out).mono ?_; rintro e w2 ⟨rfl, b2⟩; rw [HS.out]) | (go_at_call 185; refine (layoutOf_any _ _).mono ?_; rintro e w3 ⟨rfl, rfl⟩; rw [HX.out, HY.out]))
    go_ret2
    exact ⟨by rfl, b2⟩
  · go_enter Tryz.func148, Tryz.ntmps148
    go_wp2_with (first | (go_at_call 183; refine (frameKindOf_any _ _).mono ?_; rintro e w1 ⟨rfl, rfl⟩; rw [HK.out]) | (go_at_call 184; refine (hasDataSize_any _ _ _ HK.out).mono ?_; rintro e w2 ⟨rfl, b2⟩; rw [HS.out]) | (go_at_call 185; refine (layoutOf_any _ _).mono ?_; rintro e w3 ⟨rfl, rfl⟩; rw [HX.out, HY.out]))
    go_ret2
    exact ⟨by rfl, b2⟩
  · go_enter Tryz.func148, Tryz.ntmps148
    go_wp2_with (first | (go_at_call 183; refine (frameKindOf_any _ _).mono ?_; rintro e w1 ⟨rfl, rfl⟩; rw [HK.out]) | (go_at_call 184; refine (hasDataSize_any _ _ _ HK.out).mono ?_; rintro e w2 ⟨rfl, b2⟩; rw [HS.out]) | (go_at_call 185; refine (layoutOf_any _ _).mono ?_; rintro e w3 ⟨rfl, rfl⟩; rw [HX.out, HY.out]))
    go_ret2
    exact ⟨by rfl, b2⟩
end
section
open Go.RowKit
theorem l06Kind_any (a : Int) (w : World) : Calls Tryz.prog 258 #[.int .i64 a] w fun e w' => e = .returned (.bool (kindOk a)) ∧ w = w' := by
  go_enter Tryz.func258, Tryz.ntmps258
  go_wp2_with (go_at_call 180; refine (l01In_any _ _ _ _).mono ?_; rintro e w' ⟨rfl, rfl⟩)
  go_ret
  exact ⟨rfl, rfl⟩
theorem l06State_any (a : Int) (w : World) : Calls Tryz.prog 181 #[.int .i64 a] w fun e w' => e = .returned (.bool (a != 0)) ∧ w = w' := by
  go_enter Tryz.func181, Tryz.ntmps181
  go_wp2
  go_ret
  exact ⟨rfl, rfl⟩
theorem hasState_ne {a : Int} (h : kindOk a = true) : (a != 0) = hasState a := by
  unfold hasState
  rw [h, Bool.true_and, Bool.eq_iff_iff]
  simp
theorem l06Data_any (a : Int) (w : World) : Calls Tryz.prog 182 #[.int .i64 a] w fun e w' => e = .returned (.bool (hasData a)) ∧ w = w' := by
  have hd : hasData a = ((a == 0) || (a == 2)) := by unfold hasData; rw [Bool.eq_iff_iff]; simp
  rw [hd]
  clear hd
  rcases h0 : (a == 0) with _ | _
  · go_enter Tryz.func182, Tryz.ntmps182
    go_wp2
    go_ret
    exact ⟨rfl, rfl⟩
  · go_enter Tryz.func182, Tryz.ntmps182
    go_wp2
    go_ret
    exact ⟨rfl, rfl⟩
theorem l06Size_any (a n : Int) (w : World) : Calls Tryz.prog 259 #[.int .i64 a, .int .i64 n] w fun e w' => e = .returned (.bool (sizeOk a n)) ∧ w = w' := by
  by_cases h0 : a = 0
  · subst h0
    rw [show sizeOk 0 n = inRange 0 32 n from rfl]
    go_enter Tryz.func259, Tryz.ntmps259
    go_wp2_with (go_at_call 180; refine (l01In_any _ _ _ _).mono ?_; rintro e w' ⟨rfl, rfl⟩)
    go_ret
    exact ⟨rfl, rfl⟩
  by_cases h2 : a = 2
  · subst h2
    rw [show sizeOk 2 n = inRange 1 32 n from rfl]
    go_enter Tryz.func259, Tryz.ntmps259
    go_wp2_with (go_at_call 180; refine (l01In_any _ _ _ _).mono ?_; rintro e w' ⟨rfl, rfl⟩)
    go_ret
    exact ⟨rfl, rfl⟩
  rw [show sizeOk a n = (n == 0) from by unfold sizeOk; rw [if_neg h0, if_neg h2]; rfl]
  have t0 : (a == 0) = false := by simp [h0]
  have t2 : (a == 2) = false := by simp [h2]
  clear h0 h2
  go_enter Tryz.func259, Tryz.ntmps259
  go_wp2
  go_ret
  exact ⟨rfl, rfl⟩
theorem l06BodySize_any (a n : Int) (w : World) (hk : kindOk a = true) (hs : sizeOk a n = true) : Calls Tryz.prog 147 #[.int .i64 a, .int .i64 n] w fun e w' => e = .returned (.int .i64 (1 + (if hasState a = true then 8 else 0) + (if hasData a = true then 1 + n else 0))) ∧ w = w' := by
  have hn := sizeOk_le hs
  have hw : IntKind.i64.wrap (2 + n) = 1 + (1 + n) := by rw [IntKind.wrap_i64]; omega
  have hw2 : IntKind.i64.wrap (10 + n) = 9 + (1 + n) := by rw [IntKind.wrap_i64]; omega
  have hk' := hasState_ne hk
  obtain ⟨x, hx⟩ : ∃ x, hasState a = x := ⟨_, rfl⟩
  obtain ⟨y, hy⟩ : ∃ y, hasData a = y := ⟨_, rfl⟩
  rw [hx] at hk'
  rw [hx, hy]
  have HX := Lib.hid hk'; have HY := Lib.hid hy; clear hx hy hk' hk hs
  cases x <;> cases y
  · go_enter Tryz.func147, Tryz.ntmps147
    go_wp2_with (first | (go_at_call 181; refine (l06State_any _ _).mono ?_; rintro e w' ⟨rfl, rfl⟩; rw [HX.out]) | (go_at_call 182; refine (l06Data_any _ _).mono ?_; rintro e w' ⟨rfl, rfl⟩; rw [HY.out]))
    go_ret
    exact ⟨rfl, rfl⟩
  · go_enter Tryz.func147, Tryz.ntmps147
    go_wp2_with (first | (go_at_call 181; refine (l06State_any _ _).mono ?_; rintro e w' ⟨rfl, rfl⟩; rw [HX.out]) | (go_at_call 182; refine (l06Data_any _ _).mono ?_; rintro e w' ⟨rfl, rfl⟩; rw [HY.out]))
    go_ret
    exact ⟨rfl, rfl⟩
  · go_enter Tryz.func147, Tryz.ntmps147
    go_wp2_with (first | (go_at_call 181; refine (l06State_any _ _).mono ?_; rintro e w' ⟨rfl, rfl⟩; rw [HX.out]) | (go_at_call 182; refine (l06Data_any _ _).mono ?_; rintro e w' ⟨rfl, rfl⟩; rw [HY.out]))
    go_ret
    exact ⟨rfl, rfl⟩
  · go_enter Tryz.func147, Tryz.ntmps147
    go_wp2_with (first | (go_at_call 181; refine (l06State_any _ _).mono ?_; rintro e w' ⟨rfl, rfl⟩; rw [HX.out]) | (go_at_call 182; refine (l06Data_any _ _).mono ?_; rintro e w' ⟨rfl, rfl⟩; rw [HY.out]))
    go_ret
    exact ⟨rfl, rfl⟩
end
end

section
section
open Go.RowKit
theorem isNode_lo {k : Int} (h : k < 0) : isNode k = false := inR_low h
theorem isNode_hi {k : Int} (h : 31 < k) : isNode k = false := inR_high h
theorem isNode_yes {k : Int} (h0 : 0 ≤ k) (h1 : k ≤ 31) : isNode k = true := inR_true h0 h1
theorem isNode_any (k : Int) (w : World) : Calls Tryz.prog 149 #[.int .i64 k] w fun e w' => e = .returned (.bool (isNode k)) ∧ w = w' := by
  by_cases h0 : k < 0
  · rw [isNode_lo h0]
    go_enter Tryz.func149, Tryz.ntmps149
    go_wp2
    go_ret
    exact ⟨rfl, rfl⟩
  · by_cases h1 : 31 < k
    · rw [isNode_hi h1]
      go_enter Tryz.func149, Tryz.ntmps149
      go_wp2
      go_ret
      exact ⟨ret_bool (decide_eq_false (by omega)), rfl⟩
    · rw [isNode_yes (by omega) (by omega)]
      go_enter Tryz.func149, Tryz.ntmps149
      go_wp2
      go_ret
      exact ⟨ret_bool (decide_eq_true (by omega)), rfl⟩
theorem in_any (x lo hi : Int) (w : World) : Calls Tryz.prog 180 #[.int .i64 x, .int .i64 lo, .int .i64 hi] w fun e w' => e = .returned (.bool (decide (lo ≤ x) && decide (x ≤ hi))) ∧ w = w' := by
  by_cases h : lo ≤ x ∧ x ≤ hi
  · have e : (decide (lo ≤ x) && decide (x ≤ hi)) = true := by simp [h.1, h.2]
    rw [e]
    exact l01In_yes x lo hi w h.1 h.2
  · have e : (decide (lo ≤ x) && decide (x ≤ hi)) = false := by
      rw [Bool.and_eq_false_iff, decide_eq_false_iff_not, decide_eq_false_iff_not]; omega
    rw [e]
    exact l01In_no x lo hi w (by omega)
theorem l05Node_any (k : Int) (w : World) : Calls Tryz.prog 238 #[.int .i64 k] w fun e w' => e = .returned (.bool (isNode k)) ∧ w = w' := by
  go_enter Tryz.func238, Tryz.ntmps238
  go_wp2_with fail
  refine (in_any _ _ _ _).mono ?_
  rintro e w' ⟨rfl, rfl⟩
  go_wp2
  go_ret
  exact ⟨rfl, rfl⟩
theorem has_any (m k : Nat) (w : World) (hk : k < 32) : Calls Tryz.prog 245 #[.int .i64 m, .int .i64 k] w fun e w' => e = .returned (.bool (m.testBit k)) ∧ w = w' := by
  have hk0 : (0 : Int) ≤ (k : Int) := by omega
  have hk1 : (k : Int) < 64 := by omega
  go_enter Tryz.func245, Tryz.ntmps245
  go_wp2
  go_ret
  exact ⟨ret_bool (bit_and m k), rfl⟩
theorem with_any (m k : Nat) (w : World) (hm : m < 4294967296) (hk : k < 32) : Calls Tryz.prog 231 #[.int .i64 m, .int .i64 k] w fun e w' => e = .returned (.int .i64 (setN m k true : Nat)) ∧ w = w' := by
  have hk0 : (0 : Int) ≤ (k : Int) := by omega
  have hk1 : (k : Int) < 64 := by omega
  have hp := pow40 k (by omega)
  go_enter Tryz.func231, Tryz.ntmps231
  go_wp2
  go_ret
  exact ⟨ret_int (or_set m k hm hk), rfl⟩
theorem l05Has_any (m k : Nat) (w : World) (hk : k < 32) : Calls Tryz.prog 145 #[.int .i64 m, .int .i64 k] w fun e w' => e = .returned (.bool (m.testBit k)) ∧ w = w' := by
  have hk0 : (0 : Int) ≤ (k : Int) := by omega
  have hk1 : (k : Int) < 64 := by omega
  go_enter Tryz.func145, Tryz.ntmps145
  go_wp2
  go_ret
  exact ⟨ret_bool (bit_and m k), rfl⟩
theorem l05Set_any (m k : Nat) (b : Bool) (w : World) (hm : m < 4294967296) (hk : k < 32) : Calls Tryz.prog 166 #[.int .i64 m, .int .i64 k, .bool b] w fun e w' => e = .returned (.int .i64 (setN m k b : Nat)) ∧ w = w' := by
  have hk0 : (0 : Int) ≤ (k : Int) := by omega
  have hk1 : (k : Int) < 64 := by omega
  have hp := pow40 k (by omega)
  by_cases hc : m.testBit k = b
  · have hq : (m.testBit k == b) = true := by simp [hc]
    have hs : setN m k b = m := by unfold setN; rw [if_pos hc]
    rw [hs]
    clear hs hc
    go_enter Tryz.func166, Tryz.ntmps166
    go_wp2_with fail
    refine (l05Has_any m k _ hk).mono ?_
    rintro e w' ⟨rfl, rfl⟩
    go_wp2
    go_ret
    exact ⟨rfl, rfl⟩
  · have hq : (m.testBit k == b) = false := by simp [hc]
    have hs : setN m k b = m ^^^ 2 ^ k := by unfold setN; rw [if_neg hc]
    rw [hs]
    clear hs hc
    go_enter Tryz.func166, Tryz.ntmps166
    go_wp2_with fail
    refine (l05Has_any m k _ hk).mono ?_
    rintro e w' ⟨rfl, rfl⟩
    go_wp2
    go_ret
    exact ⟨ret_int (xor_set m k hm hk), rfl⟩
end
section
open Go.RowKit
theorem rdV3 {w : World} {a b c : Int} {T : Nat} : Rd (w.alloc (.cells #[.int .i64 a, .int .i64 b, .int .i64 c] T)) (some ⟨w.heap.size, 0, none⟩) 3 [a, b, c] :=
  ⟨rfl, fun _ => ⟨_, _, rfl, fun i hi => by
    rw [Nat.zero_add, World.cell?_alloc_at _ _ _ _ rfl]
    match i, hi with
    | 0, _ => rfl
    | 1, _ => rfl
    | 2, _ => rfl⟩⟩
end
section
open Go.RowKit
end
section
open Go.RowKit
theorem l01Has_any (ao : Option Addr) (n cap : Nat) (xs : List Int) (y : Int) (w : World) (hr : Rd w ao n xs) (hn : n ≤ 9223372036854775807) :
    Calls Tryz.prog 216 #[.slice ao n cap, .int .i64 y] w fun e w' => e = .returned (.bool (decide (y ∈ xs))) ∧ w = w' := by
  obtain ⟨hlen, hat⟩ := hr
  have HL := Lib.hid hlen; clear hlen
  have HA := Lib.hid hat; clear hat
  go_enter Tryz.func216, Tryz.ntmps216
  go_wp2
  go_loop [5] (fun i => ∃ k : Nat, k ≤ n ∧ i = .int .i64 k ∧ Hid (∀ j, j < k → xs.getD j 0 ≠ y)) (fun i => n - (intOf i).toNat)
  case atStart => exact ⟨0, Nat.zero_le _, rfl, fun j hj => absurd hj (by omega)⟩
  case round =>
    obtain ⟨k, hk, rfl, hall⟩ := hrel
    by_cases hlt : k < n
    · obtain ⟨b, off, rfl, hc⟩ := HA.out (by omega)
      have hck := hc k hlt
      clear hc HA
      have hkx : k < xs.length := by rw [HL.out]; exact hlt
      have hme := getD_mem' hkx
      obtain ⟨x, hx⟩ : ∃ x, x = xs.getD k 0 := ⟨_, rfl⟩
      rw [← hx] at hck hme
      have HX := Lib.hid hx; clear hx hkx
      have HM := Lib.hid hme; clear hme
      by_cases he : x = y
      · subst he
        go_wp2
        go_ret
        exact ⟨ret_bool (decide_eq_true HM.out).symm, rfl⟩
      · have t : (x == y) = false := by simp [he]
        have HE := Lib.hid he; clear he
        go_wp2
        go_round
        case rel => exact ⟨k + 1, by omega, by go_num, fun j hj => by
          by_cases e : j = k
          · subst e; rw [← HX.out]; exact HE.out
          · exact hall.out j (by omega)⟩
        case measure => simp [intOf]; omega
    · have hkn : k = n := by omega
      subst hkn
      have hno : y ∉ xs := fun h => by
        obtain ⟨j, hj, e⟩ := List.mem_iff_getElem.1 h
        exact hall.out j (by rw [← HL.out]; exact hj) (by rw [List.getD, List.getElem?_eq_getElem hj]; simpa using e)
      have HN := Lib.hid hno; clear hno
      go_wp2
      go_ret
      exact ⟨ret_bool (decide_eq_false HN.out).symm, rfl⟩
end
section
open Go.RowKit
end
section
open Go.RowKit
end
section
open Go.RowKit
end
end

section
section
structure Ds where
  node : Int
  kind : Int
  size : Int
  dur : Int
  chg : Bool
def Ds.zero : Ds := ⟨0, 0, 0, 0, false⟩
def cellsOf8 (a n : Int) : Int := 11 + 10 * ((bodySize a n).1 + 3)
def cellsNeeded (a n : Int) : Int × Int := if (bodySize a n).2 = 0 then (cellsOf8 a n, 0) else (0, (bodySize a n).2)
def isDesc (d : Ds) : Bool := inRange 0 31 d.node && (kindOk d.kind && (sizeOk d.kind d.size && (!(decide (d.kind = 3) && d.chg) && inRange (cellsOf8 d.kind d.size + 20) 1000 d.dur)))
theorem desc_parts {d : Ds} (h : isDesc d = true) : (0 ≤ d.node ∧ d.node ≤ 31) ∧ kindOk d.kind = true ∧ sizeOk d.kind d.size = true ∧ (d.kind = 3 → d.chg = false) ∧ cellsOf8 d.kind d.size + 20 ≤ d.dur ∧ d.dur ≤ 1000 := by
  unfold isDesc at h
  simp only [Bool.and_eq_true, Bool.not_eq_true', Bool.and_eq_false_iff] at h
  obtain ⟨h1, h2, h3, h4, h5⟩ := h
  refine ⟨inRange_iff.1 h1, h2, h3, fun e => ?_, (inRange_iff.1 h5).1, (inRange_iff.1 h5).2⟩
  rcases h4 with h4 | h4
  · exact absurd e (of_decide_eq_false h4)
  · exact h4
theorem bodySize_in8 (a n : Int) : 0 ≤ (bodySize a n).1 ∧ (bodySize a n).1 ≤ 42 ∧ 0 ≤ (bodySize a n).2 ∧ (bodySize a n).2 ≤ 2 := by
  unfold bodySize
  split
  · simp
  · split
    · simp
    · rename_i h2
      have := sizeOk_le (a := a) (n := n) (by simpa using h2)
      split <;> split <;> simp <;> omega
theorem bodySize_err {a n : Int} : (bodySize a n).2 = 0 ↔ (kindOk a = true ∧ sizeOk a n = true) := by
  unfold bodySize
  split
  · rename_i h; simp [h]
  · rename_i h
    split
    · rename_i h2; simp [h2]
    · rename_i h2; simp at h h2; simp [h, h2]
theorem cells_in (a n : Int) : 41 ≤ cellsOf8 a n ∧ cellsOf8 a n ≤ 461 := by
  have := bodySize_in8 a n
  unfold cellsOf8
  omega
theorem cells_fst {a n : Int} (h : (cellsNeeded a n).2 = 0) : cellsNeeded a n = (cellsOf8 a n, 0) := by
  unfold cellsNeeded at h ⊢
  split
  · rfl
  · rename_i hc; rw [if_neg hc] at h; exact absurd h hc
theorem isDesc_eq (d : Ds) : isDesc d = (decide ((cellsNeeded d.kind d.size).2 = 0) && (isNode d.node && ((!decide (d.kind = 3) || !d.chg) && (decide (cellsOf8 d.kind d.size + 20 ≤ d.dur) && decide (d.dur ≤ 1000))))) := by
  have e : (cellsNeeded d.kind d.size).2 = (bodySize d.kind d.size).2 := by unfold cellsNeeded; split <;> simp_all
  rw [e, show isNode d.node = inRange 0 31 d.node from rfl, Bool.eq_iff_iff]
  unfold isDesc
  simp only [Bool.and_eq_true, Bool.or_eq_true, Bool.not_eq_true', Bool.and_eq_false_iff, decide_eq_true_eq, decide_eq_false_iff_not, bodySize_err, inRange_iff]
  constructor
  · rintro ⟨h1, h2, h3, h4, h5, h6⟩; exact ⟨⟨h2, h3⟩, h1, h4, h5, h6⟩
  · rintro ⟨⟨h2, h3⟩, h1, h4, h5, h6⟩; exact ⟨h1, h2, h3, h4, h5, h6⟩
end
section
open Go.RowKit
def DescAt (T : Nat) (w : World) (b : Nat) (n a z u : Int) (c : Bool) : Prop := w.heap[b]? = some (.cells #[.int .i64 n, .int .i64 a, .int .i64 z, .int .i64 u, .bool c] T (0, 0))
def GivesDesc (w : World) (n a z u : Int) (c : Bool) (e : Ending) (w' : World) : Prop := e = .returned (.agg #[.int .i64 n, .int .i64 a, .int .i64 z, .int .i64 u, .bool c]) ∧ Below w.heap.size w w'
section
variable {T b : Nat} {w w' : World} {n a z u : Int} {c : Bool}
theorem DescAt.c0 (h : DescAt T w b n a z u c) : w.cell? ⟨b, 0, none⟩ = some (.int .i64 n) := cell_of_row w b 0 _ _ (0, 0) h
theorem DescAt.c1 (h : DescAt T w b n a z u c) : w.cell? ⟨b, 1, none⟩ = some (.int .i64 a) := cell_of_row w b 1 _ _ (0, 0) h
theorem DescAt.c2 (h : DescAt T w b n a z u c) : w.cell? ⟨b, 2, none⟩ = some (.int .i64 z) := cell_of_row w b 2 _ _ (0, 0) h
theorem DescAt.c3 (h : DescAt T w b n a z u c) : w.cell? ⟨b, 3, none⟩ = some (.int .i64 u) := cell_of_row w b 3 _ _ (0, 0) h
theorem DescAt.c4 (h : DescAt T w b n a z u c) : w.cell? ⟨b, 4, none⟩ = some (.bool c) := cell_of_row w b 4 _ _ (0, 0) h
theorem DescAt.f (h : DescAt T w b n a z u c) (i : Nat) : w.frozen? ⟨b, i, none⟩ = false := frozen_of_row w b i _ _ h
theorem DescAt.lt (h : DescAt T w b n a z u c) : b < w.heap.size := (Array.getElem?_eq_some_iff.1 h).1
theorem DescAt.grown {g : Option Nat} (h : DescAt T w b n a z u c) (hg : w.grownBy w' g) (hne : some b ≠ g) : DescAt T w' b n a z u c := (hg.block b h.lt hne).trans h
theorem DescAt.below {B : Nat} (h : DescAt T w b n a z u c) (hb : Below B w w') (hlt : b < B) : DescAt T w' b n a z u c := (hb.block b hlt).trans h
theorem DescAt.new (w : World) : DescAt T (w.alloc (.cells #[.int .i64 n, .int .i64 a, .int .i64 z, .int .i64 u, .bool c] T)) w.heap.size n a z u c := heap_alloc_new w _
theorem DescAt.other (h : DescAt T w b n a z u c) {q i : Nat} {v : Value} (hne : b ≠ q) : DescAt T (w.setCell ⟨q, i, none⟩ v) b n a z u c := (heap_setCell_other _ _ _ _ hne).trans h
theorem DescAt.set0 (h : DescAt T w b n a z u c) (y : Int) : DescAt T (w.setCell ⟨b, 0, none⟩ (.int .i64 y)) b y a z u c := by
  have := heap_setCell_same w b 0 _ _ (.int .i64 y) h
  simpa [DescAt] using this
theorem DescAt.set1 (h : DescAt T w b n a z u c) (y : Int) : DescAt T (w.setCell ⟨b, 1, none⟩ (.int .i64 y)) b n y z u c := by
  have := heap_setCell_same w b 1 _ _ (.int .i64 y) h
  simpa [DescAt] using this
theorem DescAt.set2 (h : DescAt T w b n a z u c) (y : Int) : DescAt T (w.setCell ⟨b, 2, none⟩ (.int .i64 y)) b n a y u c := by
  have := heap_setCell_same w b 2 _ _ (.int .i64 y) h
  simpa [DescAt] using this
theorem DescAt.set3 (h : DescAt T w b n a z u c) (y : Int) : DescAt T (w.setCell ⟨b, 3, none⟩ (.int .i64 y)) b n a z y c := by
  have := heap_setCell_same w b 3 _ _ (.int .i64 y) h
  simpa [DescAt] using this
theorem DescAt.set4 (h : DescAt T w b n a z u c) (y : Bool) : DescAt T (w.setCell ⟨b, 4, none⟩ (.bool y)) b n a z u y := by
  have := heap_setCell_same w b 4 _ _ (.bool y) h
  simpa [DescAt] using this
end
theorem desc_new {T : Nat} {w w' : World} {n a z u : Int} {c : Bool} (h : Below (w.alloc (.cells #[.int .i64 n, .int .i64 a, .int .i64 z, .int .i64 u, .bool c] T)).heap.size (w.alloc (.cells #[.int .i64 n, .int .i64 a, .int .i64 z, .int .i64 u, .bool c] T)) w') : DescAt T w' w.heap.size n a z u c :=
  (DescAt.new w).below h (by simp)
theorem toDescriptor_any (n a z u : Int) (c : Bool) (w : World) : Calls Tryz.prog 188 #[.agg #[.int .i64 n, .int .i64 a, .int .i64 z, .int .i64 u, .bool c]] w (GivesDesc w n a z u c) := by
  go_enter Tryz.func188, Tryz.ntmps188
  go_wp2
  exact bodyPost_ret (v := .agg #[.int .i64 n, .int .i64 a, .int .i64 z, .int .i64 u, .bool c]) (by simp [results, Tryz.results188, go_sem]) rfl ⟨rfl, (((Below.refl _ _).alloc (Nat.le_refl _) _).alloc (by simp) _).alloc (by simp; omega) _⟩
theorem eqDescriptor_any (n a z u : Int) (c : Bool) (w : World) : Calls Tryz.prog 189 #[.agg #[.int .i64 n, .int .i64 a, .int .i64 z, .int .i64 u, .bool c], .agg #[.int .i64 n, .int .i64 a, .int .i64 z, .int .i64 u, .bool c]] w fun e w' => e = .returned (.bool true) ∧ Below w.heap.size w w' := by
  have h0 : (n != n) = false := by simp
  have h1 : (a != a) = false := by simp
  have h2 : (z != z) = false := by simp
  have h3 : (u != u) = false := by simp
  have h4 : (c != c) = false := by simp
  go_enter Tryz.func189, Tryz.ntmps189
  go_wp2
  go_ret
  exact ⟨rfl, ((Below.refl _ _).alloc (Nat.le_refl _) _).alloc (by simp) _⟩
end
section
open Go.RowKit
def sealSz (a n : Int) : Int × Int := if (bodySize a n).2 = 0 then ((bodySize a n).1 + 3, 0) else (0, (bodySize a n).2)
theorem sealSz_any (a n : Int) (w : World) : Calls Tryz.prog 102 #[.int .i64 a, .int .i64 n] w fun e w' => e = .returned (.tuple #[.int .i64 (sealSz a n).1, .int .i64 (sealSz a n).2]) ∧ Below w.heap.size w w' := by
  have hb := fun (W : World) => bodySize_any a n W
  have hin := bodySize_in8 a n
  obtain ⟨z, c, hz⟩ : ∃ z c, bodySize a n = (z, c) := ⟨_, _, rfl⟩
  unfold sealSz
  rw [hz] at hb hin ⊢
  simp only at hb hin ⊢
  have HBS := Lib.hid hb; clear hb hz
  by_cases h0 : c = 0
  · subst h0
    rw [if_pos rfl]
    have hw : IntKind.i64.wrap (z + 3) = z + 3 := by rw [IntKind.wrap_i64]; omega
    clear hin
    go_enter Tryz.func102, Tryz.ntmps102
    go_wp2_with fail
    refine (HBS.out _).mono ?_
    rintro e w1 ⟨rfl, b1⟩
    go_wp2
    go_ret2
    exact ⟨rfl, b1⟩
  · rw [if_neg h0]
    have t1 : (c != 0) = true := by simp [h0]
    go_enter Tryz.func102, Tryz.ntmps102
    go_wp2_with fail
    refine (HBS.out _).mono ?_
    rintro e w1 ⟨rfl, b1⟩
    go_wp2
    go_ret2
    exact ⟨rfl, b1⟩
theorem cellsNeeded_any (a n : Int) (w : World) : Calls Tryz.prog 52 #[.int .i64 a, .int .i64 n] w fun e w' => e = .returned (.tuple #[.int .i64 (cellsNeeded a n).1, .int .i64 (cellsNeeded a n).2]) ∧ Below w.heap.size w w' := by
  have hb := fun (W : World) => sealSz_any a n W
  have hin := bodySize_in8 a n
  unfold sealSz at hb
  unfold cellsNeeded cellsOf8
  obtain ⟨z, c, hz⟩ : ∃ z c, bodySize a n = (z, c) := ⟨_, _, rfl⟩
  rw [hz] at hb hin ⊢
  simp only at hb hin ⊢
  by_cases h0 : c = 0
  · subst h0
    rw [if_pos rfl] at hb ⊢
    simp only at hb ⊢
    obtain ⟨y, hy⟩ : ∃ y, z + 3 = y := ⟨_, rfl⟩
    rw [hy] at hb ⊢
    have hw : IntKind.i64.wrap (10 * y) = 10 * y := by rw [IntKind.wrap_i64]; omega
    have hw2 : IntKind.i64.wrap (11 + 10 * y) = 11 + 10 * y := by rw [IntKind.wrap_i64]; omega
    have HBS := Lib.hid hb; clear hb hin hz hy
    go_enter Tryz.func52, Tryz.ntmps52
    go_wp2_with fail
    refine (HBS.out _).mono ?_
    rintro e w1 ⟨rfl, b1⟩
    go_wp2
    go_ret2
    exact ⟨rfl, b1⟩
  · rw [if_neg h0] at hb ⊢
    have t1 : (c != 0) = true := by simp [h0]
    have HBS := Lib.hid hb; clear hb hin hz
    go_enter Tryz.func52, Tryz.ntmps52
    go_wp2_with fail
    refine (HBS.out _).mono ?_
    rintro e w1 ⟨rfl, b1⟩
    go_wp2
    go_ret2
    exact ⟨rfl, b1⟩
set_option maxRecDepth 100000 in
theorem isDescriptor_any (n a z u : Int) (c : Bool) (w : World) : Calls Tryz.prog 103 #[.agg #[.int .i64 n, .int .i64 a, .int .i64 z, .int .i64 u, .bool c]] w fun e w' => e = .returned (.bool (isDesc ⟨n, a, z, u, c⟩)) ∧ Below w.heap.size w w' := by
  have hb := fun (W : World) => cellsNeeded_any a z W
  have hin := cells_in a z
  rw [isDesc_eq]
  simp only
  have hx0 : (cellsNeeded a z).2 = 0 → (cellsNeeded a z).1 = cellsOf8 a z := fun h => by rw [cells_fst h]
  generalize cellsOf8 a z = y at hin hx0 ⊢
  obtain ⟨x, k, hx⟩ : ∃ x k, cellsNeeded a z = (x, k) := ⟨_, _, rfl⟩
  rw [hx] at hb hx0 ⊢
  simp only at hb hx0 ⊢
  have HB := Lib.hid hb; clear hb hx
  by_cases hk : k = 0
  · subst hk
    obtain rfl : x = y := hx0 rfl
    have hw : IntKind.i64.wrap (x + 20) = x + 20 := by rw [IntKind.wrap_i64]; omega
    clear hin hx0
    rw [show decide ((0 : Int) = 0) = true from rfl, Bool.true_and]
    rcases hn : isNode n with _ | _
    · have HN := Lib.hid hn; clear hn
      rw [Bool.false_and]
      go_enter Tryz.func103, Tryz.ntmps103
      go_wp2_with (first | (go_at_call 52; refine (HB.out _).mono ?_; rintro e w1 ⟨rfl, b1⟩; have hd := desc_new b1; have d0 := hd.c0; have d1 := hd.c1; have d2 := hd.c2; have d3 := hd.c3; have d4 := hd.c4; clear hd) | (go_at_call 149; refine (isNode_any _ _).mono ?_; rintro e w2 ⟨rfl, rfl⟩; rw [HN.out]))
      go_ret
      exact ⟨rfl, below_box b1⟩
    · have HN := Lib.hid hn; clear hn
      rw [Bool.true_and]
      by_cases h3 : a = 3
      · subst h3
        cases c with
        | true =>
          go_enter Tryz.func103, Tryz.ntmps103
          go_wp2_with (first | (go_at_call 52; refine (HB.out _).mono ?_; rintro e w1 ⟨rfl, b1⟩; have hd := desc_new b1; have d0 := hd.c0; have d1 := hd.c1; have d2 := hd.c2; have d3 := hd.c3; have d4 := hd.c4; clear hd) | (go_at_call 149; refine (isNode_any _ _).mono ?_; rintro e w2 ⟨rfl, rfl⟩; rw [HN.out]))
          go_ret
          exact ⟨rfl, below_box b1⟩
        | false =>
          by_cases h4 : x + 20 ≤ u
          · have h4' : decide (x + 20 ≤ u) = true := decide_eq_true h4
            rw [h4']
            go_enter Tryz.func103, Tryz.ntmps103
            go_wp2_with (first | (go_at_call 52; refine (HB.out _).mono ?_; rintro e w1 ⟨rfl, b1⟩; have hd := desc_new b1; have d0 := hd.c0; have d1 := hd.c1; have d2 := hd.c2; have d3 := hd.c3; have d4 := hd.c4; clear hd) | (go_at_call 149; refine (isNode_any _ _).mono ?_; rintro e w2 ⟨rfl, rfl⟩; rw [HN.out]))
            go_ret
            exact ⟨by simp, below_box b1⟩
          · have h4' : decide (x + 20 ≤ u) = false := decide_eq_false h4
            rw [h4']
            go_enter Tryz.func103, Tryz.ntmps103
            go_wp2_with (first | (go_at_call 52; refine (HB.out _).mono ?_; rintro e w1 ⟨rfl, b1⟩; have hd := desc_new b1; have d0 := hd.c0; have d1 := hd.c1; have d2 := hd.c2; have d3 := hd.c3; have d4 := hd.c4; clear hd) | (go_at_call 149; refine (isNode_any _ _).mono ?_; rintro e w2 ⟨rfl, rfl⟩; rw [HN.out]))
            go_ret
            exact ⟨by simp, below_box b1⟩
      · have h3' : (a != 3) = true := by simp [h3]
        rw [show decide (a = 3) = false from decide_eq_false h3]
        by_cases h4 : x + 20 ≤ u
        · have h4' : decide (x + 20 ≤ u) = true := decide_eq_true h4
          rw [h4']
          go_enter Tryz.func103, Tryz.ntmps103
          go_wp2_with (first | (go_at_call 52; refine (HB.out _).mono ?_; rintro e w1 ⟨rfl, b1⟩; have hd := desc_new b1; have d0 := hd.c0; have d1 := hd.c1; have d2 := hd.c2; have d3 := hd.c3; have d4 := hd.c4; clear hd) | (go_at_call 149; refine (isNode_any _ _).mono ?_; rintro e w2 ⟨rfl, rfl⟩; rw [HN.out]))
          go_ret
          exact ⟨by simp, below_box b1⟩
        · have h4' : decide (x + 20 ≤ u) = false := decide_eq_false h4
          rw [h4']
          go_enter Tryz.func103, Tryz.ntmps103
          go_wp2_with (first | (go_at_call 52; refine (HB.out _).mono ?_; rintro e w1 ⟨rfl, b1⟩; have hd := desc_new b1; have d0 := hd.c0; have d1 := hd.c1; have d2 := hd.c2; have d3 := hd.c3; have d4 := hd.c4; clear hd) | (go_at_call 149; refine (isNode_any _ _).mono ?_; rintro e w2 ⟨rfl, rfl⟩; rw [HN.out]))
          go_ret
          exact ⟨by simp, below_box b1⟩
  · have hk' : (k == 0) = false := by simp [hk]
    clear hin hx0
    rw [show decide (k = 0) = false from decide_eq_false hk]
    go_enter Tryz.func103, Tryz.ntmps103
    go_wp2_with (first | (go_at_call 52; refine (HB.out _).mono ?_; rintro e w1 ⟨rfl, b1⟩; have hd := desc_new b1; have d0 := hd.c0; have d1 := hd.c1; have d2 := hd.c2; have d3 := hd.c3; have d4 := hd.c4; clear hd))
    go_ret
    exact ⟨rfl, below_box b1⟩
theorem l08Cells_any (a n : Int) (w : World) (hk : kindOk a = true) (hs : sizeOk a n = true) : Calls Tryz.prog 98 #[.int .i64 a, .int .i64 n] w fun e w' => e = .returned (.int .i64 (cellsOf8 a n)) ∧ w = w' := by
  have hb := fun (W : World) => l06BodySize_any a n W hk hs
  have hin := bodySize_in8 a n
  have e := bs_0 hk hs
  unfold cellsOf8
  rw [e] at hin ⊢
  simp only at hin ⊢
  obtain ⟨y, hy⟩ : ∃ y : Int, (1 + (if hasState a = true then 8 else 0) + (if hasData a = true then 1 + n else 0)) = y := ⟨_, rfl⟩
  rw [hy] at hin hb ⊢
  have hw : IntKind.i64.wrap (y + 3) = y + 3 := by rw [IntKind.wrap_i64]; omega
  have hw1 : IntKind.i64.wrap (10 * (y + 3)) = 10 * (y + 3) := by rw [IntKind.wrap_i64]; omega
  have hw2 : IntKind.i64.wrap (11 + 10 * (y + 3)) = 11 + 10 * (y + 3) := by rw [IntKind.wrap_i64]; omega
  have HB := Lib.hid hb; clear hb hin hy e
  go_enter Tryz.func98, Tryz.ntmps98
  go_wp2_with fail
  refine (HB.out _).mono ?_
  rintro e w1 ⟨rfl, rfl⟩
  go_wp2
  go_ret
  exact ⟨rfl, rfl⟩
theorem id_no {n a z u : Int} {c : Bool} (h : isNode n = false ∨ kindOk a = false ∨ sizeOk a z = false ∨ (a = 3 ∧ c = true)) : isDesc ⟨n, a, z, u, c⟩ = false := by
  unfold isDesc
  simp only
  rcases h with h | h | h | ⟨rfl, rfl⟩
  · rw [show inRange 0 31 n = false from h, Bool.false_and]
  · rw [h, Bool.false_and, Bool.and_false]
  · rw [h, Bool.false_and, Bool.and_false, Bool.and_false]
  · simp
theorem id_yes {n a z u : Int} {c : Bool} (h1 : isNode n = true) (h2 : kindOk a = true) (h3 : sizeOk a z = true) (h4 : (decide (a = 3) && c) = false) : isDesc ⟨n, a, z, u, c⟩ = inRange (cellsOf8 a z + 20) 1000 u := by
  unfold isDesc
  simp only
  rw [show inRange 0 31 n = true from h1, h2, h3, h4]
  rfl
set_option maxRecDepth 100000 in
theorem sIsDescriptor_any (n a z u : Int) (c : Bool) (w : World) : Calls Tryz.prog 240 #[.agg #[.int .i64 n, .int .i64 a, .int .i64 z, .int .i64 u, .bool c]] w fun e w' => e = .returned (.bool (isDesc ⟨n, a, z, u, c⟩)) ∧ Below w.heap.size w w' := by
  rcases hn : isNode n with _ | _
  · rw [id_no (.inl hn)]
    have HN := Lib.hid hn; clear hn
    go_enter Tryz.func240, Tryz.ntmps240
    go_wp2_with (go_at_call 238; refine (l05Node_any _ _).mono ?_; rintro e w2 ⟨rfl, rfl⟩; rw [HN.out])
    go_ret
    exact ⟨rfl, (Below.refl _ _).alloc (Nat.le_refl _) _⟩
  rcases hk : kindOk a with _ | _
  · rw [id_no (.inr (.inl hk))]
    have HN := Lib.hid hn; have HK := Lib.hid hk; clear hn hk
    go_enter Tryz.func240, Tryz.ntmps240
    go_wp2_with (first | (go_at_call 238; refine (l05Node_any _ _).mono ?_; rintro e w2 ⟨rfl, rfl⟩; rw [HN.out]) | (go_at_call 258; refine (l06Kind_any _ _).mono ?_; rintro e w2 ⟨rfl, rfl⟩; rw [HK.out]))
    go_ret
    exact ⟨rfl, (Below.refl _ _).alloc (Nat.le_refl _) _⟩
  rcases hs : sizeOk a z with _ | _
  · rw [id_no (.inr (.inr (.inl hs)))]
    have HN := Lib.hid hn; have HK := Lib.hid hk; have HS := Lib.hid hs; clear hn hk hs
    go_enter Tryz.func240, Tryz.ntmps240
    go_wp2_with (first | (go_at_call 238; refine (l05Node_any _ _).mono ?_; rintro e w2 ⟨rfl, rfl⟩; rw [HN.out]) | (go_at_call 258; refine (l06Kind_any _ _).mono ?_; rintro e w2 ⟨rfl, rfl⟩; rw [HK.out]) | (go_at_call 259; refine (l06Size_any _ _ _).mono ?_; rintro e w2 ⟨rfl, rfl⟩; rw [HS.out]))
    go_ret
    exact ⟨rfl, (Below.refl _ _).alloc (Nat.le_refl _) _⟩
  by_cases h3 : a = 3
  · subst h3
    cases c with
    | true =>
      rw [id_no (.inr (.inr (.inr ⟨rfl, rfl⟩)))]
      have HN := Lib.hid hn; have HK := Lib.hid hk; have HS := Lib.hid hs; clear hn hk hs
      go_enter Tryz.func240, Tryz.ntmps240
      go_wp2_with (first | (go_at_call 238; refine (l05Node_any _ _).mono ?_; rintro e w2 ⟨rfl, rfl⟩; rw [HN.out]) | (go_at_call 258; refine (l06Kind_any _ _).mono ?_; rintro e w2 ⟨rfl, rfl⟩; rw [HK.out]) | (go_at_call 259; refine (l06Size_any _ _ _).mono ?_; rintro e w2 ⟨rfl, rfl⟩; rw [HS.out]))
      go_ret
      exact ⟨rfl, (Below.refl _ _).alloc (Nat.le_refl _) _⟩
    | false =>
      rw [id_yes hn hk hs rfl]
      have hc := fun (W : World) => l08Cells_any 3 z W hk hs
      have hin := cells_in 3 z
      generalize cellsOf8 3 z = y at hc hin ⊢
      have hw : IntKind.i64.wrap (y + 20) = y + 20 := by rw [IntKind.wrap_i64]; omega
      have HC := Lib.hid hc; clear hc hin
      have HN := Lib.hid hn; have HK := Lib.hid hk; have HS := Lib.hid hs; clear hn hk hs
      go_enter Tryz.func240, Tryz.ntmps240
      go_wp2_with (first | (go_at_call 238; refine (l05Node_any _ _).mono ?_; rintro e w2 ⟨rfl, rfl⟩; rw [HN.out]) | (go_at_call 258; refine (l06Kind_any _ _).mono ?_; rintro e w2 ⟨rfl, rfl⟩; rw [HK.out]) | (go_at_call 259; refine (l06Size_any _ _ _).mono ?_; rintro e w2 ⟨rfl, rfl⟩; rw [HS.out]))
      go_quiet (first | (go_at_call 98; exact quiet_left (HC.out _)) | (go_at_call 180; exact quiet_left (l01In_any _ _ _ _)))
      go_wp2
      go_ret
      exact ⟨rfl, below_drewN' ((Below.refl _ _).alloc (Nat.le_refl _) _) _⟩
  · have h3' : (a == 3) = false := by simp [h3]
    rw [id_yes hn hk hs (by simp [h3])]
    have hc := fun (W : World) => l08Cells_any a z W hk hs
    have hin := cells_in a z
    generalize cellsOf8 a z = y at hc hin ⊢
    have hw : IntKind.i64.wrap (y + 20) = y + 20 := by rw [IntKind.wrap_i64]; omega
    have HC := Lib.hid hc; clear hc hin
    have HN := Lib.hid hn; have HK := Lib.hid hk; have HS := Lib.hid hs; clear hn hk hs
    go_enter Tryz.func240, Tryz.ntmps240
    go_wp2_with (first | (go_at_call 238; refine (l05Node_any _ _).mono ?_; rintro e w2 ⟨rfl, rfl⟩; rw [HN.out]) | (go_at_call 258; refine (l06Kind_any _ _).mono ?_; rintro e w2 ⟨rfl, rfl⟩; rw [HK.out]) | (go_at_call 259; refine (l06Size_any _ _ _).mono ?_; rintro e w2 ⟨rfl, rfl⟩; rw [HS.out]))
    go_quiet (first | (go_at_call 98; exact quiet_left (HC.out _)) | (go_at_call 180; exact quiet_left (l01In_any _ _ _ _)))
    go_wp2
    go_ret
    exact ⟨rfl, below_drewN' ((Below.refl _ _).alloc (Nat.le_refl _) _) _⟩
end
end

section
structure Sl where
  mode : Int
  round : Int
  slot : Int
  desc : Ds
def Sl.zero : Sl := ⟨0, 0, 0, Ds.zero⟩
def slOf (t : List Sl) (i : Nat) : Sl := t.getD i Sl.zero
def isSl (x : Sl) : Bool := inRange 0 15 x.mode && (inRange 0 7 x.round && (inRange 0 15 x.slot && isDesc x.desc))
def cmpSl (a b : Sl) : Int :=
  if a.mode < b.mode then -1 else if b.mode < a.mode then 1 else if a.round < b.round then -1 else if b.round < a.round then 1 else if a.slot < b.slot then -1 else if b.slot < a.slot then 1 else 0
def stepSl (t : List Sl) (i : Nat) : Bool := isSl (slOf t i) && (decide (i = 0) || decide (cmpSl (slOf t (i - 1)) (slOf t i) < 0))
def isSls (t : List Sl) : Bool := decide (t.length ≤ 120) && (List.range t.length).all (stepSl t)
def sameSl (m r s : Int) (x : Sl) : Bool := decide (x.mode = m) && (decide (x.round = r) && decide (x.slot = s))
def findSlot (t : List Sl) (m r s : Int) : Ds × Int :=
  if isSls t = false then (Ds.zero, 1) else match t.find? (sameSl m r s) with
    | none => (Ds.zero, 4)
    | some x => (x.desc, 0)
def before (t : List Sl) (x : Sl) : List Sl := t.filter fun y => decide (cmpSl y x < 0)
theorem cmp_lt {a b : Sl} : cmpSl a b < 0 ↔ (a.mode < b.mode ∨ (a.mode = b.mode ∧ (a.round < b.round ∨ (a.round = b.round ∧ a.slot < b.slot)))) := by
  unfold cmpSl; repeat' split
  all_goals omega
theorem cmp_trans {a b c : Sl} (h1 : cmpSl a b < 0) (h2 : cmpSl b c < 0) : cmpSl a c < 0 := by
  rw [cmp_lt] at *; omega
theorem slOf_get {t : List Sl} {i : Nat} (h : i < t.length) : slOf t i = t[i] := by simp [slOf, List.getD, List.getElem?_eq_getElem h]
theorem slOf_mem {t : List Sl} {i : Nat} (h : i < t.length) : slOf t i ∈ t := by rw [slOf_get h]; exact List.getElem_mem h
theorem mem_slOf {t : List Sl} {x : Sl} (h : x ∈ t) : ∃ i, i < t.length ∧ slOf t i = x := by
  obtain ⟨i, hi, e⟩ := List.getElem_of_mem h
  exact ⟨i, hi, by rw [slOf_get hi]; exact e⟩
theorem isSls_steps {t : List Sl} : isSls t = true ↔ t.length ≤ 120 ∧ ∀ i, i < t.length → stepSl t i = true := by
  simp [isSls, List.all_eq_true]
theorem stepSl_iff {t : List Sl} {i : Nat} : stepSl t i = true ↔ isSl (slOf t i) = true ∧ (i = 0 ∨ cmpSl (slOf t (i - 1)) (slOf t i) < 0) := by simp [stepSl]
theorem isSls_iff {t : List Sl} : isSls t = true ↔ t.length ≤ 120 ∧ (∀ x ∈ t, isSl x = true) ∧ t.Pairwise fun a b => cmpSl a b < 0 := by
  rw [isSls_steps]
  constructor
  · rintro ⟨h1, h2⟩
    refine ⟨h1, fun x hx => ?_, List.pairwise_iff_getElem.2 fun i j hi hj hij => ?_⟩
    · obtain ⟨i, hi, rfl⟩ := mem_slOf hx
      exact (stepSl_iff.1 (h2 i hi)).1
    · rw [← slOf_get hi, ← slOf_get hj]
      obtain ⟨d, rfl⟩ : ∃ d, j = i + d + 1 := ⟨j - i - 1, by omega⟩
      clear hij
      induction d with
      | zero =>
        have := (stepSl_iff.1 (h2 (i + 1) hj)).2
        rcases this with h | h
        · omega
        · exact h
      | succ d ih =>
        have ih := ih (by omega)
        have := (stepSl_iff.1 (h2 (i + (d + 1) + 1) hj)).2
        rcases this with h | h
        · omega
        · exact cmp_trans ih h
  · rintro ⟨h1, h2, h3⟩
    refine ⟨h1, fun i hi => stepSl_iff.2 ⟨h2 _ (slOf_mem hi), ?_⟩⟩
    rcases Nat.eq_zero_or_pos i with h0 | h0
    · exact .inl h0
    · refine .inr ?_
      rw [slOf_get hi, slOf_get (by omega)]
      exact List.pairwise_iff_getElem.1 h3 (i - 1) i (by omega) hi (by omega)
theorem sls_no {t : List Sl} {k : Nat} (hk : k < t.length) (h : stepSl t k = false) : isSls t = false := by
  rw [Bool.eq_false_iff]
  intro hc
  rw [(isSls_steps.1 hc).2 k hk] at h
  cases h
theorem isSl_iff {x : Sl} : isSl x = true ↔ (0 ≤ x.mode ∧ x.mode ≤ 15) ∧ (0 ≤ x.round ∧ x.round ≤ 7) ∧ (0 ≤ x.slot ∧ x.slot ≤ 15) ∧ isDesc x.desc = true := by
  simp [isSl, inRange_iff, and_assoc]
theorem same_iff {m r s : Int} {x : Sl} : sameSl m r s x = true ↔ x.mode = m ∧ x.round = r ∧ x.slot = s := by simp [sameSl]
theorem find_here {t : List Sl} (h : isSls t = true) {x : Sl} (hx : x ∈ t) : findSlot t x.mode x.round x.slot = (x.desc, 0) := by
  unfold findSlot
  rw [if_neg (by rw [h]; simp)]
  obtain ⟨-, -, h3⟩ := isSls_iff.1 h
  rcases hf : t.find? (sameSl x.mode x.round x.slot) with _ | y
  · have := List.find?_eq_none.1 hf x hx
    simp [sameSl] at this
  · have h1 := List.mem_of_find?_eq_some hf
    have h2 := same_iff.1 (List.find?_some hf)
    have e : x = y := by
      obtain ⟨i, hi, ei⟩ := List.getElem_of_mem hx
      obtain ⟨j, hj, ej⟩ := List.getElem_of_mem h1
      rcases Nat.lt_trichotomy i j with hij | rfl | hij
      · have := List.pairwise_iff_getElem.1 h3 i j hi hj hij
        rw [ei, ej, cmp_lt] at this
        omega
      · rw [← ei, ← ej]
      · have := List.pairwise_iff_getElem.1 h3 j i hj hi hij
        rw [ei, ej, cmp_lt] at this
        omega
    rw [e]
end

section
structure Md where
  rounds : Int
  slots : Int
  next : List Int
def Md.zero : Md := ⟨0, 0, []⟩
def mdOf (t : List Md) (i : Nat) : Md := t.getD i Md.zero
def isMd (n i : Nat) (x : Md) : Bool := inRange 1 8 x.rounds && (inRange 1 16 x.slots && (rises (n : Int) x.next && !decide ((i : Int) ∈ x.next)))
def isModes (t : List Md) : Bool := (decide (1 ≤ t.length) && decide (t.length ≤ 16)) && (List.range t.length).all fun i => isMd t.length i (mdOf t i)
def isMode (t : List Md) (m : Int) : Bool := inRange 0 ((t.length : Int) - 1) m
theorem inR11 {lo hi x : Int} : inRange lo hi x = true ↔ lo ≤ x ∧ x ≤ hi := by simp [inRange]
theorem mdOf_get {t : List Md} {i : Nat} (h : i < t.length) : mdOf t i = t[i] := by simp [mdOf, List.getD, List.getElem?_eq_getElem h]
theorem mdOf_out {t : List Md} {i : Nat} (h : ¬ i < t.length) : mdOf t i = Md.zero := by simp [mdOf, List.getD, List.getElem?_eq_none (Nat.not_lt.1 h)]
theorem isModes_iff {t : List Md} : isModes t = true ↔ (1 ≤ t.length ∧ t.length ≤ 16) ∧ ∀ i, i < t.length → isMd t.length i (mdOf t i) = true := by
  simp [isModes, List.all_eq_true]
theorem isMd_iff {n i : Nat} {x : Md} : isMd n i x = true ↔ (1 ≤ x.rounds ∧ x.rounds ≤ 8) ∧ (1 ≤ x.slots ∧ x.slots ≤ 16) ∧ rises (n : Int) x.next = true ∧ (i : Int) ∉ x.next := by
  simp [isMd, inR11]
theorem modes_no {t : List Md} {k : Nat} (hk : k < t.length) (h : isMd t.length k (mdOf t k) = false) : isModes t = false := by
  rw [Bool.eq_false_iff]
  intro hc
  rw [(isModes_iff.1 hc).2 k hk] at h
  cases h
theorem isMode_iff {t : List Md} {m : Int} : isMode t m = true ↔ 0 ≤ m ∧ m < t.length := by
  unfold isMode; rw [inR11]; omega
def walk (t : List Md) : Nat → Nat → Nat → Prop
  | 0, i, j => i = j
  | n + 1, i, j => ∃ k : Nat, (k : Int) ∈ (mdOf t i).next ∧ walk t n k j
end

section
structure Nd where
  id : Int
  name : ByteArray
  drift : Int
  pas : Bool
def Nd.zero : Nd := ⟨0, ByteArray.empty, 0, false⟩
def charOk (x : Int) : Bool := (decide (97 ≤ x) && decide (x ≤ 122)) || (decide (48 ≤ x) && decide (x ≤ 57))
def nameOk (s : ByteArray) : Bool := (nums s).all charOk && (decide (1 ≤ s.size) && decide (s.size ≤ 6))
def isNd (x : Nd) : Bool := inRange 0 31 x.id && (nameOk x.name && inRange 0 1000 x.drift)
def ndOf (t : List Nd) (i : Nat) : Nd := t.getD i Nd.zero
def upOk (t : List Nd) (i : Nat) : Bool := decide (i = 0) || decide ((ndOf t (i - 1)).id < (ndOf t i).id)
def newName (t : List Nd) (i : Nat) : Bool := (List.range i).all fun k => decide ((ndOf t k).name ≠ (ndOf t i).name)
def entryOk (t : List Nd) (i : Nat) : Bool := isNd (ndOf t i) && (upOk t i && newName t i)
def isTable (t : List Nd) : Bool := (decide (1 ≤ t.length) && decide (t.length ≤ 32)) && (List.range t.length).all (entryOk t)
def actTo (t : List Nd) : Nat → Nat
  | 0 => 0
  | k + 1 => if (ndOf t k).pas = true then actTo t k else setN (actTo t k) (ndOf t k).id.toNat true
def activeVector (t : List Nd) : Int × Int := if isTable t = true then ((actTo t t.length : Nat), 0) else (0, 1)
theorem inR10 {lo hi x : Int} : inRange lo hi x = true ↔ lo ≤ x ∧ x ≤ hi := by simp [inRange]
theorem ndOf_get {t : List Nd} {i : Nat} (h : i < t.length) : ndOf t i = t[i] := by simp [ndOf, List.getD, List.getElem?_eq_getElem h]
theorem ndOf_mem {t : List Nd} {i : Nat} (h : i < t.length) : ndOf t i ∈ t := by rw [ndOf_get h]; exact List.getElem_mem h
theorem mem_ndOf {t : List Nd} {x : Nd} (h : x ∈ t) : ∃ i, i < t.length ∧ ndOf t i = x := by
  obtain ⟨i, hi, e⟩ := List.getElem_of_mem h
  exact ⟨i, hi, by rw [ndOf_get hi]; exact e⟩
theorem isTable_iff {t : List Nd} : isTable t = true ↔ (1 ≤ t.length ∧ t.length ≤ 32) ∧ ∀ i, i < t.length → entryOk t i = true := by
  simp [isTable, List.all_eq_true]
theorem entryOk_iff {t : List Nd} {i : Nat} : entryOk t i = true ↔ isNd (ndOf t i) = true ∧ upOk t i = true ∧ newName t i = true := by
  simp [entryOk]
theorem isNd_iff {x : Nd} : isNd x = true ↔ (0 ≤ x.id ∧ x.id ≤ 31) ∧ nameOk x.name = true ∧ (0 ≤ x.drift ∧ x.drift ≤ 1000) := by
  simp [isNd, inR10]
theorem table_nd {t : List Nd} (h : isTable t = true) {i : Nat} (hi : i < t.length) : isNd (ndOf t i) = true := (entryOk_iff.1 ((isTable_iff.1 h).2 i hi)).1
theorem actTo_lt {t : List Nd} (h : isTable t = true) : ∀ k, k ≤ t.length → actTo t k < 4294967296
  | 0, _ => by simp [actTo]
  | k + 1, hk => by
    have h1 := actTo_lt h k (by omega)
    have h2 := (isNd_iff.1 (table_nd h (i := k) hk)).1
    rw [actTo]
    split
    · exact h1
    · exact setN_lt h1 (by omega)
end

section
structure Me where
  id : Int
  nodes : List Nd
  modes : List Md
  slots : List Sl
def Me.zero : Me := ⟨0, [], [], []⟩
def kSl (x : Sl) : Int := x.mode * 128 + x.round * 16 + x.slot
def roundKeys (k r S : Nat) : List Int := (List.range S).map fun s : Nat => (k : Int) * 128 + (r : Int) * 16 + (s : Int)
def keysOf (k R S : Nat) : List Int := (List.range R).flatMap fun r => roundKeys k r S
def modeKeys (ms : List Md) (k : Nat) : List Int := keysOf k (mdOf ms k).rounds.toNat (mdOf ms k).slots.toNat
def allKeys (ms : List Md) : List Int := (List.range ms.length).flatMap (modeKeys ms)
def actv (m : Me) : Nat := actTo m.nodes m.nodes.length
def inMode (t : List Sl) (k : Nat) : List Sl := t.filter fun x => decide (x.mode = (k : Int))
def inRound (t : List Sl) (k r : Nat) : List Sl := t.filter fun x => decide (x.mode = (k : Int)) && decide (x.round = (r : Int))
def dursum : List Sl → Int
  | [] => 0
  | x :: r => x.desc.dur + dursum r
def vecOfSl (t : List Sl) : Nat := t.foldl (fun a x => setN a x.desc.node.toNat true) 0
def rule5 (m : Me) : Bool := decide (m.slots.map kSl = allKeys m.modes)
def rule6 (m : Me) : Bool := m.slots.all fun x => (actv m).testBit x.desc.node.toNat
def sameDur (a b : Sl) : Bool := !(decide (a.mode = b.mode) && decide (a.slot = b.slot)) || decide (a.desc.dur = b.desc.dur)
def rule7 (m : Me) : Bool := m.slots.all fun a => m.slots.all fun b => sameDur a b
def rule8 (m : Me) : Bool := (List.range m.modes.length).all fun k => decide (dursum (inMode m.slots k) ≤ 32000)
def servedRound (m : Me) (k r : Nat) : Bool := decide (vecOfSl (inRound m.slots k r) = actv m)
def rule9 (m : Me) : Bool := (List.range m.modes.length).all fun k => (List.range (mdOf m.modes k).rounds.toNat).all fun r => servedRound m k r
def coldOk (x : Sl) : Bool := !(decide (x.desc.kind = 3) && !decide (x.mode = 0))
def rule10 (m : Me) : Bool := m.slots.all coldOk
def firstFault (m : Me) : Int :=
  if inRange 1 16777215 m.id = false then 1 else if isTable m.nodes = false then 2 else if isModes m.modes = false then 3 else if isSls m.slots = false then 4 else if rule5 m = false then 5 else if rule6 m = false then 6 else if rule7 m = false then 7 else if rule8 m = false then 8 else if rule9 m = false then 9 else if rule10 m = false then 10 else 0
def isMedl (m : Me) : Bool := decide (firstFault m = 0)
structure Well (m : Me) : Prop where
  r1 : inRange 1 16777215 m.id = true
  r2 : isTable m.nodes = true
  r3 : isModes m.modes = true
  r4 : isSls m.slots = true
  r5 : rule5 m = true
  r6 : rule6 m = true
  r7 : rule7 m = true
  r8 : rule8 m = true
  r9 : rule9 m = true
  r10 : rule10 m = true
theorem medl_iff {m : Me} : isMedl m = true ↔ Well m := by
  unfold isMedl
  rw [decide_eq_true_eq]
  constructor
  · intro h
    unfold firstFault at h
    repeat' (split at h; · cases h)
    rename_i h1 h2 h3 h4 h5 h6 h7 h8 h9 h10
    refine ⟨?_, ?_, ?_, ?_, ?_, ?_, ?_, ?_, ?_, ?_⟩ <;> simp_all
  · rintro ⟨h1, h2, h3, h4, h5, h6, h7, h8, h9, h10⟩
    simp [firstFault, h1, h2, h3, h4, h5, h6, h7, h8, h9, h10]
def risesI (l : List Int) : Prop := l.Pairwise fun a b => a < b
theorem rise_same : ∀ {l2 l1 : List Int}, risesI l1 → risesI l2 → (∀ x ∈ l1, x ∈ l2) → l1.length ≤ l2.length ∧ (l1.length = l2.length → l1 = l2)
  | [], l1, _, _, h => by
    have : l1 = [] := List.eq_nil_iff_forall_not_mem.2 fun x hx => by cases h x hx
    subst this
    exact ⟨Nat.le_refl _, fun _ => rfl⟩
  | b :: t2, [], _, _, _ => ⟨Nat.zero_le _, fun h => by simp at h⟩
  | b :: t2, a :: t1, h1, h2, h => by
    have g1 := List.pairwise_cons.1 h1
    have g2 := List.pairwise_cons.1 h2
    have hab : b ≤ a := by
      rcases List.mem_cons.1 (h a (by simp)) with e | e
      · omega
      · have := g2.1 a e; omega
    have hs : ∀ x ∈ t1, x ∈ t2 := fun x hx => by
      rcases List.mem_cons.1 (h x (by simp [hx])) with e | e
      · have := g1.1 x hx; omega
      · exact e
    obtain ⟨i1, i2⟩ := rise_same g1.2 g2.2 hs
    refine ⟨by simp only [List.length_cons]; omega, fun hl => ?_⟩
    have e := i2 (by simpa using hl)
    subst e
    rcases List.mem_cons.1 (h a (by simp)) with e | e
    · rw [e]
    · have := g1.1 a e; omega
theorem mem_roundKeys {k r S : Nat} {y : Int} : y ∈ roundKeys k r S ↔ ∃ s : Nat, s < S ∧ y = (k : Int) * 128 + (r : Int) * 16 + (s : Int) := by
  simp only [roundKeys, List.mem_map, List.mem_range]
  exact ⟨fun ⟨s, h, e⟩ => ⟨s, h, e.symm⟩, fun ⟨s, h, e⟩ => ⟨s, h, e.symm⟩⟩
theorem mem_keysOf {k R S : Nat} {y : Int} : y ∈ keysOf k R S ↔ ∃ r s : Nat, r < R ∧ s < S ∧ y = (k : Int) * 128 + (r : Int) * 16 + (s : Int) := by
  simp only [keysOf, List.mem_flatMap, List.mem_range, mem_roundKeys]
  exact ⟨fun ⟨r, h, s, h2, e⟩ => ⟨r, s, h, h2, e⟩, fun ⟨r, s, h, h2, e⟩ => ⟨r, h, s, h2, e⟩⟩
theorem mem_allKeys {ms : List Md} {y : Int} : y ∈ allKeys ms ↔ ∃ k r s : Nat, k < ms.length ∧ r < (mdOf ms k).rounds.toNat ∧ s < (mdOf ms k).slots.toNat ∧ y = (k : Int) * 128 + (r : Int) * 16 + (s : Int) := by
  simp only [allKeys, modeKeys, List.mem_flatMap, List.mem_range, mem_keysOf]
  exact ⟨fun ⟨k, h, r, s, h2, h3, e⟩ => ⟨k, r, s, h, h2, h3, e⟩, fun ⟨k, r, s, h, h2, h3, e⟩ => ⟨k, h, r, s, h2, h3, e⟩⟩
theorem rise_range {n : Nat} {g : Nat → List Int} (h1 : ∀ i, i < n → risesI (g i)) (h2 : ∀ i j, i < j → j < n → ∀ x ∈ g i, ∀ y ∈ g j, x < y) : risesI ((List.range n).flatMap g) := by
  induction n with
  | zero => exact List.Pairwise.nil
  | succ n ih =>
    rw [List.range_succ, List.flatMap_append]
    unfold risesI
    rw [List.pairwise_append]
    refine ⟨ih (fun i hi => h1 i (by omega)) (fun i j hij hj => h2 i j hij (by omega)), ?_, fun x hx y hy => ?_⟩
    · have := h1 n (by omega)
      unfold risesI at this
      simpa using this
    · simp only [List.flatMap_cons, List.flatMap_nil, List.append_nil] at hy
      obtain ⟨i, hi, hx⟩ := List.mem_flatMap.1 hx
      rw [List.mem_range] at hi
      exact h2 i n hi (by omega) x hx y hy
theorem rise_round (k r S : Nat) : risesI (roundKeys k r S) := by
  unfold risesI roundKeys
  rw [List.pairwise_map]
  exact List.Pairwise.imp (fun h => by omega) List.pairwise_lt_range
theorem rise_keys {k R S : Nat} (hS : S ≤ 16) : risesI (keysOf k R S) := by
  refine rise_range (fun i _ => rise_round k i S) fun i j hij _ x hx y hy => ?_
  obtain ⟨s, hs, rfl⟩ := mem_roundKeys.1 hx
  obtain ⟨s', hs', rfl⟩ := mem_roundKeys.1 hy
  omega
theorem md_bounds {ms : List Md} (h : isModes ms = true) {k : Nat} (hk : k < ms.length) : 1 ≤ (mdOf ms k).rounds ∧ (mdOf ms k).rounds ≤ 8 ∧ 1 ≤ (mdOf ms k).slots ∧ (mdOf ms k).slots ≤ 16 := by
  obtain ⟨⟨a, b⟩, ⟨c, d⟩, -⟩ := isMd_iff.1 ((isModes_iff.1 h).2 k hk)
  exact ⟨a, b, c, d⟩
theorem rise_all {ms : List Md} (h : isModes ms = true) : risesI (allKeys ms) := by
  refine rise_range (fun i hi => ?_) fun i j hij hj x hx y hy => ?_
  · have := md_bounds h hi
    exact rise_keys (by omega)
  · have b1 := md_bounds h (show i < ms.length by omega)
    have b2 := md_bounds h hj
    obtain ⟨r, s, hr, hs, rfl⟩ := mem_keysOf.1 hx
    obtain ⟨r', s', hr', hs', rfl⟩ := mem_keysOf.1 hy
    omega
theorem sl_bounds {t : List Sl} (h : isSls t = true) {x : Sl} (hx : x ∈ t) : (0 ≤ x.mode ∧ x.mode ≤ 15) ∧ (0 ≤ x.round ∧ x.round ≤ 7) ∧ (0 ≤ x.slot ∧ x.slot ≤ 15) ∧ isDesc x.desc = true :=
  isSl_iff.1 ((isSls_iff.1 h).2.1 x hx)
theorem sl_node {t : List Sl} (h : isSls t = true) {x : Sl} (hx : x ∈ t) : 0 ≤ x.desc.node ∧ x.desc.node ≤ 31 := (desc_parts (sl_bounds h hx).2.2.2).1
theorem sl_dur {t : List Sl} (h : isSls t = true) {x : Sl} (hx : x ∈ t) : 1 ≤ x.desc.dur ∧ x.desc.dur ≤ 1000 := by
  obtain ⟨-, -, -, -, h1, h2⟩ := desc_parts (sl_bounds h hx).2.2.2
  have := cells_in x.desc.kind x.desc.size
  omega
theorem rise_slots {t : List Sl} (h : isSls t = true) : risesI (t.map kSl) := by
  unfold risesI
  rw [List.pairwise_map]
  have h3 := (isSls_iff.1 h).2.2
  refine List.Pairwise.imp_of_mem (fun {a b} ha hb hab => ?_) h3
  have b1 := sl_bounds h ha
  have b2 := sl_bounds h hb
  rw [cmp_lt] at hab
  unfold kSl
  omega
def hasSlotB (ms : List Md) (x : Sl) : Bool := isMode ms x.mode && (decide (x.round < (mdOf ms x.mode.toNat).rounds) && decide (x.slot < (mdOf ms x.mode.toNat).slots))
theorem has_key {ms : List Md} {t : List Sl} (h : isSls t = true) (hm : isModes ms = true) {x : Sl} (hx : x ∈ t) : hasSlotB ms x = true ↔ kSl x ∈ allKeys ms := by
  have b := sl_bounds h hx
  rw [mem_allKeys]
  simp only [hasSlotB, Bool.and_eq_true, decide_eq_true_eq, isMode_iff]
  constructor
  · rintro ⟨⟨h0, h1⟩, h2, h3⟩
    exact ⟨x.mode.toNat, x.round.toNat, x.slot.toNat, by omega, by omega, by omega, by unfold kSl; omega⟩
  · rintro ⟨k, r, s, hk, hr, hs, e⟩
    have bm := md_bounds hm hk
    unfold kSl at e
    have e1 : x.mode = (k : Int) := by omega
    have e2 : x.mode.toNat = k := by omega
    rw [e2]
    exact ⟨by omega, by omega, by omega⟩
def slotCount (ms : List Md) : Nat → Nat
  | 0 => 0
  | k + 1 => slotCount ms k + (mdOf ms k).rounds.toNat * (mdOf ms k).slots.toNat
theorem keysOf_len (k R S : Nat) : (keysOf k R S).length = R * S := by
  unfold keysOf
  induction R with
  | zero => simp
  | succ R ih => rw [List.range_succ, List.flatMap_append, List.length_append, ih]; simp [roundKeys, Nat.succ_mul]
theorem range_len (ms : List Md) (n : Nat) : ((List.range n).flatMap (modeKeys ms)).length = slotCount ms n := by
  induction n with
  | zero => rfl
  | succ n ih => rw [List.range_succ, List.flatMap_append, List.length_append, ih]; simp [modeKeys, keysOf_len, slotCount]
theorem allKeys_len (ms : List Md) : (allKeys ms).length = slotCount ms ms.length := range_len ms ms.length
theorem slotCount_le {ms : List Md} (h : isModes ms = true) : ∀ k, k ≤ ms.length → slotCount ms k ≤ k * 128
  | 0, _ => Nat.le_refl _
  | k + 1, hk => by
    have := slotCount_le h k (by omega)
    have b := md_bounds h (show k < ms.length by omega)
    unfold slotCount
    have : (mdOf ms k).rounds.toNat * (mdOf ms k).slots.toNat ≤ 8 * 16 := Nat.mul_le_mul (by omega) (by omega)
    omega
theorem slotCount_mono (ms : List Md) {a b : Nat} (h : a ≤ b) : slotCount ms a ≤ slotCount ms b := by
  induction h with
  | refl => exact Nat.le_refl _
  | step _ ih => exact Nat.le_trans ih (Nat.le_add_right _ _)
theorem rule5_prog {m : Me} (h : isSls m.slots = true) (hm : isModes m.modes = true) : rule5 m = (m.slots.all (hasSlotB m.modes) && decide (m.slots.length = slotCount m.modes m.modes.length)) := by
  rw [Bool.eq_iff_iff]
  simp only [rule5, decide_eq_true_eq, Bool.and_eq_true, List.all_eq_true]
  constructor
  · intro e
    refine ⟨fun x hx => (has_key h hm hx).2 (by rw [← e]; exact List.mem_map_of_mem hx), ?_⟩
    rw [← allKeys_len, ← e, List.length_map]
  · rintro ⟨h1, h2⟩
    refine (rise_same (rise_slots h) (rise_all hm) fun y hy => ?_).2 (by rw [List.length_map, allKeys_len, h2])
    obtain ⟨x, hx, rfl⟩ := List.mem_map.1 hy
    exact (has_key h hm hx).1 (h1 x hx)
theorem find_key {t : List Sl} (h : isSls t = true) {k r s : Nat} (hr : r < 8) (hs : s < 16) : t.any (sameSl (k : Int) (r : Int) (s : Int)) = true ↔ ((k : Int) * 128 + (r : Int) * 16 + (s : Int)) ∈ t.map kSl := by
  rw [List.any_eq_true, List.mem_map]
  constructor
  · rintro ⟨x, hx, e⟩
    obtain ⟨e1, e2, e3⟩ := same_iff.1 e
    exact ⟨x, hx, by unfold kSl; rw [e1, e2, e3]⟩
  · rintro ⟨x, hx, e⟩
    have b := sl_bounds h hx
    unfold kSl at e
    exact ⟨x, hx, same_iff.2 ⟨by omega, by omega, by omega⟩⟩
theorem rule5_spec {m : Me} (h : isSls m.slots = true) (hm : isModes m.modes = true) : rule5 m = true ↔ ((∀ k r s : Nat, k < m.modes.length → r < (mdOf m.modes k).rounds.toNat → s < (mdOf m.modes k).slots.toNat → m.slots.any (sameSl (k : Int) (r : Int) (s : Int)) = true) ∧ slotCount m.modes m.modes.length = m.slots.length) := by
  simp only [rule5, decide_eq_true_eq]
  constructor
  · intro e
    refine ⟨fun k r s hk hr hs => ?_, by rw [← allKeys_len, ← e, List.length_map]⟩
    have b := md_bounds hm hk
    rw [find_key h (by omega) (by omega), e]
    exact mem_allKeys.2 ⟨k, r, s, hk, hr, hs, rfl⟩
  · rintro ⟨h1, h2⟩
    refine ((rise_same (rise_all hm) (rise_slots h) fun y hy => ?_).2 (by rw [List.length_map, allKeys_len, h2])).symm
    obtain ⟨k, r, s, hk, hr, hs, rfl⟩ := mem_allKeys.1 hy
    have b := md_bounds hm hk
    rw [← find_key h (by omega) (by omega)]
    exact h1 k r s hk hr hs
theorem seg_filter {α : Type} (p : α → Bool) {l a b c : List α} (e : l = a ++ (b ++ c)) (ha : ∀ x ∈ a, p x = false) (hb : ∀ x ∈ b, p x = true) (hc : ∀ x ∈ c, p x = false) : l.filter p = (l.drop a.length).take b.length := by
  subst e
  rw [List.filter_append, List.filter_append, List.filter_eq_nil_iff.2 (fun x hx => by rw [ha x hx]; simp), List.filter_eq_self.2 hb, List.filter_eq_nil_iff.2 (fun x hx => by rw [hc x hx]; simp)]
  simp
theorem range_split {n k : Nat} (hk : k < n) (g : Nat → List Int) : (List.range n).flatMap g = (List.range k).flatMap g ++ (g k ++ (List.range (n - (k + 1))).flatMap fun j => g (k + 1 + j)) := by
  have e : n = k + 1 + (n - (k + 1)) := by omega
  conv => lhs; rw [e]
  rw [List.range_add, List.flatMap_append, List.range_succ, List.flatMap_append, List.append_assoc]
  congr 1
  congr 1
  · simp
  · rw [List.flatMap_map]
theorem map_split {α : Type} {f : α → Int} {l : List α} {A B C : List Int} (h : l.map f = A ++ (B ++ C)) : ∃ a b c, l = a ++ (b ++ c) ∧ a.map f = A ∧ b.map f = B ∧ c.map f = C := by
  obtain ⟨a, r, rfl, h1, h2⟩ := List.map_eq_append_iff.1 h
  obtain ⟨b, c, rfl, h3, h4⟩ := List.map_eq_append_iff.1 h2
  exact ⟨a, b, c, rfl, h1, h3, h4⟩
section
variable {m : Me} (h4 : isSls m.slots = true) (h3 : isModes m.modes = true) (h5 : rule5 m = true)
include h4 h3 h5
theorem mode_parts {k : Nat} (hk : k < m.modes.length) : inMode m.slots k = (m.slots.drop (slotCount m.modes k)).take ((mdOf m.modes k).rounds.toNat * (mdOf m.modes k).slots.toNat) ∧ (inMode m.slots k).map kSl = modeKeys m.modes k := by
  have e : m.slots.map kSl = allKeys m.modes := by simpa [rule5] using h5
  unfold allKeys at e
  rw [range_split hk] at e
  obtain ⟨a, b, c, el, ea, eb, ec⟩ := map_split e
  have la : a.length = slotCount m.modes k := by rw [← range_len, ← ea, List.length_map]
  have lb : b.length = (mdOf m.modes k).rounds.toNat * (mdOf m.modes k).slots.toNat := by
    have := keysOf_len k (mdOf m.modes k).rounds.toNat (mdOf m.modes k).slots.toNat
    rw [← this]
    show b.length = (modeKeys m.modes k).length
    rw [← eb, List.length_map]
  have hmem : ∀ x, x ∈ a ∨ x ∈ b ∨ x ∈ c → x ∈ m.slots := fun x hx => by rw [el]; simpa using hx
  have hf := seg_filter (fun x => decide (x.mode = (k : Int))) el (fun x hx => ?_) (fun x hx => ?_) (fun x hx => ?_)
  · rw [la, lb] at hf
    refine ⟨hf, ?_⟩
    unfold inMode
    rw [hf, ← eb]
    congr 1
    rw [el, ← la, ← lb]
    simp
  · have hy : kSl x ∈ (List.range k).flatMap (modeKeys m.modes) := by rw [← ea]; exact List.mem_map_of_mem hx
    obtain ⟨j, hj, hy⟩ := List.mem_flatMap.1 hy
    rw [List.mem_range] at hj
    obtain ⟨r, s, hr, hs, e⟩ := mem_keysOf.1 hy
    have b1 := sl_bounds h4 (hmem x (.inl hx))
    have b2 := md_bounds h3 (show j < m.modes.length by omega)
    unfold kSl at e
    simp only [decide_eq_false_iff_not]
    omega
  · have hy : kSl x ∈ modeKeys m.modes k := by rw [← eb]; exact List.mem_map_of_mem hx
    obtain ⟨r, s, hr, hs, e⟩ := mem_keysOf.1 hy
    have b1 := sl_bounds h4 (hmem x (.inr (.inl hx)))
    have b2 := md_bounds h3 hk
    unfold kSl at e
    simp only [decide_eq_true_eq]
    omega
  · have hy : kSl x ∈ (List.range (m.modes.length - (k + 1))).flatMap fun j => modeKeys m.modes (k + 1 + j) := by rw [← ec]; exact List.mem_map_of_mem hx
    obtain ⟨j, hj, hy⟩ := List.mem_flatMap.1 hy
    rw [List.mem_range] at hj
    obtain ⟨r, s, hr, hs, e⟩ := mem_keysOf.1 hy
    have b1 := sl_bounds h4 (hmem x (.inr (.inr hx)))
    have b2 := md_bounds h3 (show k + 1 + j < m.modes.length by omega)
    unfold kSl at e
    simp only [decide_eq_false_iff_not]
    omega
theorem round_parts {k r : Nat} (hk : k < m.modes.length) (hr : r < (mdOf m.modes k).rounds.toNat) :
    inRound m.slots k r = ((inMode m.slots k).drop (r * (mdOf m.modes k).slots.toNat)).take (mdOf m.modes k).slots.toNat ∧ (inRound m.slots k r).map kSl = roundKeys k r (mdOf m.modes k).slots.toNat := by
  obtain ⟨-, e⟩ := mode_parts h4 h3 h5 hk
  unfold modeKeys keysOf at e
  rw [range_split hr] at e
  obtain ⟨a, b, c, el, ea, eb, ec⟩ := map_split e
  have la : a.length = r * (mdOf m.modes k).slots.toNat := by
    rw [← keysOf_len k r, ← List.length_map (f := kSl), ea]
    rfl
  have lb : b.length = (mdOf m.modes k).slots.toNat := by
    rw [← List.length_map (f := kSl), eb]
    simp [roundKeys]
  have hmem : ∀ x, x ∈ a ∨ x ∈ b ∨ x ∈ c → x ∈ m.slots ∧ x.mode = (k : Int) := fun x hx => by
    have : x ∈ inMode m.slots k := by rw [el]; simpa using hx
    have := List.mem_filter.1 this
    exact ⟨this.1, by simpa using this.2⟩
  have b2 := md_bounds h3 hk
  have e0 : inRound m.slots k r = (inMode m.slots k).filter fun x => decide (x.round = (r : Int)) := by
    unfold inRound inMode
    rw [List.filter_filter]
    congr 1
    funext x
    exact Bool.and_comm _ _
  have hf := seg_filter (fun x => decide (x.round = (r : Int))) el (fun x hx => ?_) (fun x hx => ?_) (fun x hx => ?_)
  · rw [la, lb] at hf
    refine ⟨e0.trans hf, ?_⟩
    rw [e0, hf, ← eb]
    congr 1
    rw [el, ← la, ← lb]
    simp
  · have hy : kSl x ∈ (List.range r).flatMap fun r => roundKeys k r (mdOf m.modes k).slots.toNat := by rw [← ea]; exact List.mem_map_of_mem hx
    obtain ⟨j, hj, hy⟩ := List.mem_flatMap.1 hy
    rw [List.mem_range] at hj
    obtain ⟨s, hs, e⟩ := mem_roundKeys.1 hy
    obtain ⟨g1, g2⟩ := hmem x (.inl hx)
    have b1 := sl_bounds h4 g1
    unfold kSl at e
    simp only [decide_eq_false_iff_not]
    omega
  · have hy : kSl x ∈ roundKeys k r (mdOf m.modes k).slots.toNat := by rw [← eb]; exact List.mem_map_of_mem hx
    obtain ⟨s, hs, e⟩ := mem_roundKeys.1 hy
    obtain ⟨g1, g2⟩ := hmem x (.inr (.inl hx))
    have b1 := sl_bounds h4 g1
    unfold kSl at e
    simp only [decide_eq_true_eq]
    omega
  · have hy : kSl x ∈ (List.range ((mdOf m.modes k).rounds.toNat - (r + 1))).flatMap fun j => roundKeys k (r + 1 + j) (mdOf m.modes k).slots.toNat := by rw [← ec]; exact List.mem_map_of_mem hx
    obtain ⟨j, hj, hy⟩ := List.mem_flatMap.1 hy
    rw [List.mem_range] at hj
    obtain ⟨s, hs, e⟩ := mem_roundKeys.1 hy
    obtain ⟨g1, g2⟩ := hmem x (.inr (.inr hx))
    have b1 := sl_bounds h4 g1
    unfold kSl at e
    simp only [decide_eq_false_iff_not]
    omega
theorem mode_len {k : Nat} (hk : k < m.modes.length) : (inMode m.slots k).length = (mdOf m.modes k).rounds.toNat * (mdOf m.modes k).slots.toNat := by
  have := (mode_parts h4 h3 h5 hk).2
  rw [← List.length_map (f := kSl), this]
  exact keysOf_len _ _ _
theorem round_len {k r : Nat} (hk : k < m.modes.length) (hr : r < (mdOf m.modes k).rounds.toNat) : (inRound m.slots k r).length = (mdOf m.modes k).slots.toNat := by
  have := (round_parts h4 h3 h5 hk hr).2
  rw [← List.length_map (f := kSl), this]
  simp [roundKeys]
omit h4 h3 in
theorem slots_len : m.slots.length = slotCount m.modes m.modes.length := by
  have e : m.slots.map kSl = allKeys m.modes := by simpa [rule5] using h5
  rw [← List.length_map (f := kSl), e, allKeys_len]
theorem round_at {k r s : Nat} (hk : k < m.modes.length) (hr : r < (mdOf m.modes k).rounds.toNat) (hs : s < (mdOf m.modes k).slots.toNat) :
    slOf (inRound m.slots k r) s ∈ m.slots ∧ (slOf (inRound m.slots k r) s).mode = (k : Int) ∧ (slOf (inRound m.slots k r) s).round = (r : Int) ∧ (slOf (inRound m.slots k r) s).slot = (s : Int) := by
  have hl := round_len h4 h3 h5 hk hr
  have hm := slOf_mem (t := inRound m.slots k r) (i := s) (by omega)
  obtain ⟨g1, g2⟩ := List.mem_filter.1 hm
  have g2 : (slOf (inRound m.slots k r) s).mode = (k : Int) ∧ (slOf (inRound m.slots k r) s).round = (r : Int) := by simpa using g2
  have hkk := (round_parts h4 h3 h5 hk hr).2
  have : ((inRound m.slots k r).map kSl)[s]? = some ((k : Int) * 128 + (r : Int) * 16 + (s : Int)) := by
    rw [hkk]
    simp [roundKeys, hs]
  rw [List.getElem?_map, List.getElem?_eq_getElem (by omega)] at this
  rw [slOf_get (by omega)] at g2 ⊢
  simp only [Option.map_some, Option.some.injEq, kSl] at this
  refine ⟨by rw [← slOf_get (by omega)]; exact g1, g2.1, g2.2, ?_⟩
  rw [g2.1, g2.2] at this
  omega
theorem slot_place {x : Sl} (hx : x ∈ m.slots) : ∃ k r s : Nat, k < m.modes.length ∧ r < (mdOf m.modes k).rounds.toNat ∧ s < (mdOf m.modes k).slots.toNat ∧ x.mode = (k : Int) ∧ x.round = (r : Int) ∧ x.slot = (s : Int) ∧ slOf (inRound m.slots k r) s = x := by
  have e : m.slots.map kSl = allKeys m.modes := by simpa [rule5] using h5
  have hy : kSl x ∈ allKeys m.modes := by rw [← e]; exact List.mem_map_of_mem hx
  obtain ⟨k, r, s, hk, hr, hs, e2⟩ := mem_allKeys.1 hy
  have b1 := sl_bounds h4 hx
  have b2 := md_bounds h3 hk
  have e2' := e2
  unfold kSl at e2
  refine ⟨k, r, s, hk, hr, hs, by omega, by omega, by omega, ?_⟩
  obtain ⟨g1, g2, g3, g4⟩ := round_at h4 h3 h5 hk hr hs
  have : kSl (slOf (inRound m.slots k r) s) = kSl x := by rw [e2']; unfold kSl; rw [g2, g3, g4]
  have hn := rise_slots h4
  unfold risesI at hn
  rw [List.pairwise_map] at hn
  obtain ⟨i, hi, ei⟩ := List.getElem_of_mem g1
  obtain ⟨j, hj, ej⟩ := List.getElem_of_mem hx
  have hp := List.pairwise_iff_getElem.1 hn
  rcases Nat.lt_trichotomy i j with hij | rfl | hij
  · have := hp i j hi hj hij; rw [ei, ej] at this; omega
  · rw [← ei, ← ej]
  · have := hp j i hj hi hij; rw [ei, ej] at this; omega
theorem rule7_prog : rule7 m = true ↔ ∀ k r s : Nat, k < m.modes.length → r < (mdOf m.modes k).rounds.toNat → s < (mdOf m.modes k).slots.toNat → (slOf (inRound m.slots k 0) s).desc.dur = (slOf (inRound m.slots k r) s).desc.dur := by
  simp only [rule7, List.all_eq_true, sameDur, Bool.or_eq_true, Bool.not_eq_true', Bool.and_eq_false_iff, decide_eq_false_iff_not, decide_eq_true_eq]
  constructor
  · intro h k r s hk hr hs
    have b2 := md_bounds h3 hk
    obtain ⟨g1, g2, g3, g4⟩ := round_at h4 h3 h5 hk (r := 0) (by omega) hs
    obtain ⟨f1, f2, f3, f4⟩ := round_at h4 h3 h5 hk hr hs
    rcases h _ g1 _ f1 with (e | e) | e
    · exact absurd (g2.trans f2.symm) e
    · exact absurd (g4.trans f4.symm) e
    · exact e
  · intro h x hx y hy
    obtain ⟨k, r, s, hk, hr, hs, e1, -, e3, ex⟩ := slot_place h4 h3 h5 hx
    obtain ⟨k', r', s', hk', hr', hs', d1, -, d3, dx⟩ := slot_place h4 h3 h5 hy
    by_cases hkk : x.mode = y.mode
    · by_cases hss : x.slot = y.slot
      · have ek : k = k' := by omega
        have es : s = s' := by omega
        subst ek es
        right
        rw [← ex, ← dx, ← h k r s hk hr hs, ← h k r' s hk hr' hs]
      · exact .inl (.inr hss)
    · exact .inl (.inl hkk)
end
end

section
theorem dursum_app (a b : List Sl) : dursum (a ++ b) = dursum a + dursum b := by
  induction a with
  | nil => simp [dursum]
  | cons x a ih => simp only [List.cons_append, dursum, ih]; omega
theorem take_slOf {t : List Sl} {k : Nat} (hk : k < t.length) : t.take (k + 1) = t.take k ++ [slOf t k] := by
  rw [List.take_add_one, List.getElem?_eq_getElem hk, slOf_get hk]; rfl
theorem dursum_next {t : List Sl} {k : Nat} (hk : k < t.length) : dursum (t.take (k + 1)) = dursum (t.take k) + (slOf t k).desc.dur := by
  rw [take_slOf hk, dursum_app]; simp [dursum]
theorem dursum_in {t : List Sl} (h : ∀ x ∈ t, 1 ≤ x.desc.dur ∧ x.desc.dur ≤ 1000) : (t.length : Int) ≤ dursum t ∧ dursum t ≤ 1000 * t.length := by
  induction t with
  | nil => simp [dursum]
  | cons x t ih =>
    have := h x (by simp)
    have := ih fun y hy => h y (by simp [hy])
    simp only [dursum, List.length_cons]
    omega
theorem inMode_next {t : List Sl} {j k : Nat} (hk : k < t.length) : inMode (t.take (k + 1)) j = if (slOf t k).mode = (j : Int) then inMode (t.take k) j ++ [slOf t k] else inMode (t.take k) j := by
  unfold inMode
  rw [take_slOf hk, List.filter_append]
  by_cases h : (slOf t k).mode = (j : Int) <;> simp [h]
theorem inRound_next {t : List Sl} {j r k : Nat} (hk : k < t.length) : inRound (t.take (k + 1)) j r = if (slOf t k).mode = (j : Int) ∧ (slOf t k).round = (r : Int) then inRound (t.take k) j r ++ [slOf t k] else inRound (t.take k) j r := by
  unfold inRound
  rw [take_slOf hk, List.filter_append]
  by_cases h : (slOf t k).mode = (j : Int) <;> by_cases h2 : (slOf t k).round = (r : Int) <;> simp [h, h2]
theorem vec_app (t : List Sl) (x : Sl) : vecOfSl (t ++ [x]) = setN (vecOfSl t) x.desc.node.toNat true := by
  unfold vecOfSl; rw [List.foldl_append]; rfl
theorem vec_lt {t : List Sl} (h : ∀ x ∈ t, 0 ≤ x.desc.node ∧ x.desc.node ≤ 31) : vecOfSl t < 4294967296 := by
  unfold vecOfSl
  have : ∀ a : Nat, a < 4294967296 → (∀ x ∈ t, 0 ≤ x.desc.node ∧ x.desc.node ≤ 31) → t.foldl (fun a x => setN a x.desc.node.toNat true) a < 4294967296 := by
    clear h
    induction t with
    | nil => intro a ha _; exact ha
    | cons x t ih => intro a ha h; exact ih _ (setN_lt ha (by have := h x (by simp); omega)) fun y hy => h y (by simp [hy])
  exact this 0 (by omega) h
theorem inMode_sub {t : List Sl} {k : Nat} {x : Sl} (h : x ∈ inMode t k) : x ∈ t := (List.mem_filter.1 h).1
theorem inRound_sub {t : List Sl} {k r : Nat} {x : Sl} (h : x ∈ inRound t k r) : x ∈ t := (List.mem_filter.1 h).1
theorem inMode_le (t : List Sl) (k : Nat) : (inMode t k).length ≤ t.length := List.length_filter_le ..
theorem inRound_le (t : List Sl) (k r : Nat) : (inRound t k r).length ≤ t.length := List.length_filter_le ..
theorem dursum_mode {t : List Sl} (h : isSls t = true) (k : Nat) : 0 ≤ dursum (inMode t k) ∧ dursum (inMode t k) ≤ 120000 := by
  have h1 := dursum_in (t := inMode t k) fun x hx => sl_dur h (inMode_sub hx)
  have h2 := inMode_le t k
  have h3 := (isSls_iff.1 h).1
  omega
theorem actv_lt {m : Me} (h : isTable m.nodes = true) : actv m < 4294967296 := actTo_lt h _ (Nat.le_refl _)
theorem mode_nat {t : List Md} {k : Int} (h : isMode t k = true) : ∃ j : Nat, k = j ∧ j < t.length := by
  have := isMode_iff.1 h
  exact ⟨k.toNat, by omega, by omega⟩
end

section
open Go.RowKit
theorem nd_iff (x y : Nd) : (x.id = y.id ∧ x.name = y.name ∧ x.drift = y.drift ∧ x.pas = y.pas) ↔ x = y := by
  cases x; cases y; simp
instance instNdEq : DecidableEq Nd := fun x y => decidable_of_iff _ (nd_iff x y)
def ndVal (x : Nd) : Value := .agg #[.int .i64 x.id, .string x.name, .int .i64 x.drift, .bool x.pas]
def ndCells (x : Nd) : List Value := [.int .i64 x.id, .string x.name, .int .i64 x.drift, .bool x.pas]
structure NdIn (w : World) (b off : Nat) (x : Nd) : Prop where
  c0 : w.cell? ⟨b, off, none⟩ = some (.int .i64 x.id)
  c1 : w.cell? ⟨b, off + 1, none⟩ = some (.string x.name)
  c2 : w.cell? ⟨b, off + 2, none⟩ = some (.int .i64 x.drift)
  c3 : w.cell? ⟨b, off + 3, none⟩ = some (.bool x.pas)
def NdAt (T : Nat) (w : World) (b : Nat) (x : Nd) : Prop := w.heap[b]? = some (.cells #[.int .i64 x.id, .string x.name, .int .i64 x.drift, .bool x.pas] T (0, 0))
structure RdN (w : World) (ao : Option Addr) (n : Nat) (t : List Nd) : Prop where
  len : t.length = n
  here : 0 < n → ∃ b off, ao = some ⟨b, off, none⟩ ∧ ∀ i, i < n → NdIn w b (off + i * 4) (ndOf t i)
def OwnN (E : Nat) (w : World) (base : Nat) (v : Value) (t : List Nd) : Prop := w.ownsRow base E 4 v t.length (t.flatMap ndCells)
def smallN (t : List Nd) : Prop := ∀ i, i < t.length → (ndOf t i).name.size ≤ 1048576
section
variable {w w' : World} {E T base n b off : Nat} {ao : Option Addr} {v : Value} {t : List Nd} {x : Nd}
theorem NdIn.lt (h : NdIn w b off x) : b < w.heap.size := World.block_lt_of_cell? w _ h.c0
theorem NdIn.below {B : Nat} (h : NdIn w b off x) (hb : Below B w w') (hlt : b < B) : NdIn w' b off x :=
  ⟨(hb.cell (p := ⟨b, off, none⟩) hlt).trans h.c0, (hb.cell (p := ⟨b, off + 1, none⟩) hlt).trans h.c1, (hb.cell (p := ⟨b, off + 2, none⟩) hlt).trans h.c2, (hb.cell (p := ⟨b, off + 3, none⟩) hlt).trans h.c3⟩
theorem NdIn.grown {g : Option Nat} (h : NdIn w b off x) (hg : w.grownBy w' g) (hne : some b ≠ g) : NdIn w' b off x :=
  ⟨hg.cell h.c0 hne, hg.cell h.c1 hne, hg.cell h.c2 hne, hg.cell h.c3 hne⟩
theorem NdAt.in_ (h : NdAt T w b x) : NdIn w b 0 x := ⟨cell_of_row w b 0 _ _ (0, 0) h, cell_of_row w b 1 _ _ (0, 0) h, cell_of_row w b 2 _ _ (0, 0) h, cell_of_row w b 3 _ _ (0, 0) h⟩
theorem NdAt.f (h : NdAt T w b x) (i : Nat) : w.frozen? ⟨b, i, none⟩ = false := frozen_of_row w b i _ _ h
theorem NdAt.lt (h : NdAt T w b x) : b < w.heap.size := (Array.getElem?_eq_some_iff.1 h).1
theorem NdAt.below {B : Nat} (h : NdAt T w b x) (hb : Below B w w') (hlt : b < B) : NdAt T w' b x := (hb.block b hlt).trans h
theorem NdAt.grown {g : Option Nat} (h : NdAt T w b x) (hg : w.grownBy w' g) (hne : some b ≠ g) : NdAt T w' b x := (hg.block b h.lt hne).trans h
theorem NdAt.new (w : World) : NdAt T (w.alloc (.cells #[.int .i64 x.id, .string x.name, .int .i64 x.drift, .bool x.pas] T)) w.heap.size x := heap_alloc_new w _
theorem RdN.nil_ : RdN w ao 0 [] := ⟨rfl, fun h => absurd h (by omega)⟩
theorem RdN.at (h : RdN w ao n t) {i : Nat} (hi : i < n) : ∃ b off, ao = some ⟨b, off, none⟩ ∧ b < w.heap.size ∧ NdIn w b (off + i * 4) (ndOf t i) := by
  obtain ⟨b, off, e, hc⟩ := h.here (by omega)
  exact ⟨b, off, e, (hc i hi).lt, hc i hi⟩
theorem RdN.below (h : RdN w ao n t) (hb : Below w.heap.size w w') : RdN w' ao n t :=
  ⟨h.len, fun hn => by
    obtain ⟨b, off, e, hc⟩ := h.here hn
    exact ⟨b, off, e, fun i hi => (hc i hi).below hb (hc i hi).lt⟩⟩
theorem RdN.only {g : Option Nat} (h : RdN w ao n t) (ho : w.grownBy w' g) (hg : ∀ b off, ao = some ⟨b, off, none⟩ → g ≠ some b) : RdN w' ao n t :=
  ⟨h.len, fun hn => by
    obtain ⟨b, off, e, hc⟩ := h.here hn
    exact ⟨b, off, e, fun i hi => (hc i hi).grown ho (fun h => hg b off e h.symm)⟩⟩
theorem ndOf_take {k i : Nat} (h : i < k) : ndOf (t.take k) i = ndOf t i := by simp [ndOf, List.getD, h]
theorem RdN.take (h : RdN w ao n t) {k : Nat} (hk : k ≤ n) : RdN w ao k (t.take k) :=
  ⟨by rw [List.length_take, h.len]; omega, fun h0 => by
    obtain ⟨b, off, e, hc⟩ := h.here (by omega)
    exact ⟨b, off, e, fun i hi => by rw [ndOf_take hi]; exact hc i (by omega)⟩⟩
theorem flatN_len (t : List Nd) : (t.flatMap ndCells).length = t.length * 4 := by
  induction t with
  | nil => rfl
  | cons a r ih => rw [List.flatMap_cons, List.length_append, ih]; simp [ndCells]; omega
theorem flatN_get (t : List Nd) (i j : Nat) (hi : i < t.length) (hj : j < 4) : (t.flatMap ndCells)[i * 4 + j]? = (ndCells (ndOf t i))[j]? := by
  induction t generalizing i with
  | nil => simp at hi
  | cons a r ih =>
    cases i with
    | zero =>
      rw [List.flatMap_cons, List.getElem?_append_left (by simp [ndCells]; omega)]
      simp [ndOf]
    | succ i =>
      rw [List.flatMap_cons, List.getElem?_append_right (by simp [ndCells]; omega)]
      rw [show (i + 1) * 4 + j - (ndCells a).length = i * 4 + j from by simp [ndCells]; omega, ih i (by simpa using hi)]
      simp [ndOf]
theorem OwnN.below (h : OwnN E w base v t) (hb : Below w.heap.size w w') : OwnN E w' base v t := by
  obtain ⟨h1, h2⟩ := h
  refine ⟨h1, ?_⟩
  rcases h2 with h2 | ⟨g, cap, cur, e, hg, hh, r⟩
  · exact .inl h2
  · exact .inr ⟨g, cap, cur, e, hg, by rw [hb.block g (Array.getElem?_eq_some_iff.1 hh).1]; exact hh, r⟩
theorem OwnN.more (h : OwnN E w base v t) {base' : Nat} (hb : base' ≤ base) : OwnN E w base' v t := by
  obtain ⟨h1, h2⟩ := h
  refine ⟨h1, ?_⟩
  rcases h2 with h2 | ⟨g, cap, cur, e, hg, r⟩
  · exact .inl h2
  · exact .inr ⟨g, cap, cur, e, Nat.le_trans hb hg, r⟩
theorem OwnN.block (h : OwnN E w base v t) : ∀ k, v.ownBlock = some k → base ≤ k ∧ k < w.heap.size := World.ownsRow.lt h
theorem OwnN.form (h : OwnN E w base v t) : ∃ ao cap, v = .slice ao t.length cap ∧ RdN w ao t.length t ∧ t.length ≤ cap ∧ cap ≤ maxLen ∧ (v = .slice none 0 0 ∨ ∃ g, ao = some ⟨g, 0, none⟩ ∧ base ≤ g ∧ g < w.heap.size) := by
  have h0 := h
  obtain ⟨h1, h2⟩ := h
  rcases h2 with ⟨rfl, h2⟩ | ⟨g, cap, cur, rfl, hg, hh, hn, hcap, hsz, htake⟩
  · have : t = [] := List.length_eq_zero_iff.1 h2
    subst this
    exact ⟨none, 0, rfl, RdN.nil_, Nat.le_refl _, by unfold maxLen; omega, .inl rfl⟩
  · unfold OwnN at h0
    have hc : ∀ i j, i < t.length → j < 4 → w.cell? ⟨g, 0 + i * 4 + j, none⟩ = (ndCells (ndOf t i))[j]? := fun i j hi hj => by
      rw [Nat.zero_add, World.ownsRow.cellAt h0 (i * 4 + j) (by omega), flatN_get t i j hi hj]
    exact ⟨_, cap, rfl, ⟨rfl, fun _ => ⟨g, 0, rfl, fun i hi => ⟨hc i 0 hi (by omega), hc i 1 hi (by omega), hc i 2 hi (by omega), hc i 3 hi (by omega)⟩⟩⟩, hn, hcap, .inr ⟨g, rfl, hg, (Array.getElem?_eq_some_iff.1 hh).1⟩⟩
theorem OwnN.cap {cap : Nat} (h : OwnN E w base (.slice ao n cap) t) : n ≤ cap ∧ cap ≤ 9223372036854775807 := by
  obtain ⟨ao', cap', e, -, h1, h2, -⟩ := h.form
  cases e
  unfold maxLen at h2
  exact ⟨h1, by omega⟩
theorem OwnN.of_alloc_nil (hE : base ≤ w.heap.size) : OwnN E (w.alloc (.cells #[] E)) base (.slice (some ⟨w.heap.size, 0, none⟩) 0 0) [] :=
  World.ownsRow_made w #[] 0 hE (by unfold maxLen; omega) rfl
theorem OwnN.nil_ : OwnN E w base (.slice none 0 0) [] := World.ownsRow_nil _ _ _ _
theorem OwnN.get (h : OwnN E w base v t) : ∃ ao cap, v = .slice ao t.length cap ∧ OwnN E w base (.slice ao t.length cap) t ∧ RdN w ao t.length t := by
  obtain ⟨ao, cap, rfl, r, -, -, -⟩ := h.form
  exact ⟨ao, cap, rfl, h, r⟩
theorem OwnN.only {g : Option Nat} (h : OwnN E w base v t) (ho : w.grownBy w' g) (hg : v.ownBlock = none ∨ v.ownBlock ≠ g) : OwnN E w' base v t := World.ownsRow.kept h ho hg
end
def MakesN (E : Nat) (w : World) (t : List Nd) (e : Ending) (w' : World) : Prop :=
  ∃ v, e = .returned v ∧ OwnN E w' w.heap.size v t ∧ Below w.heap.size w w'
section
variable {w w' : World} {E : Nat} {t : List Nd} {e : Ending} {c d : Int}
theorem MakesN.get (h : MakesN E w t e w') : ∃ ao cap, e = .returned (.slice ao t.length cap) ∧ OwnN E w' w.heap.size (.slice ao t.length cap) t ∧ RdN w' ao t.length t ∧ Below w.heap.size w w' := by
  obtain ⟨v, rfl, o, b⟩ := h
  obtain ⟨ao, cap, rfl, o, r⟩ := o.get
  exact ⟨ao, cap, rfl, o, r, b⟩
end
end

section
open Go.RowKit
theorem grown_of_b {w w' : World} (h : Below w.heap.size w w') (g : Option Nat) : w.grownBy w' g := ⟨h.os, h.tape, h.output, h.size, fun k hk _ => h.block k hk⟩
theorem grown_set (w : World) (g j : Nat) (v : Value) : w.grownBy (w.setCell ⟨g, j, none⟩ v) (some g) :=
  ⟨rfl, rfl, rfl, by simp [World.setCell], fun k _ hne => heap_setCell_other _ _ _ _ (fun e => hne (by rw [e]))⟩
section
variable {w w' : World} {E T base b : Nat} {v : Value} {xs : List Int} {t : List Nd} {x : Nd}
theorem ownsRow_ne {size n : Nat} {cs : List Value} (h : w.ownsRow base E size v n cs) {cur : Array Value} {fz : Nat × Nat} (hb : w.heap[b]? = some (.cells cur T fz)) (hne : T ≠ E) : some b ≠ v.ownBlock := by
  intro e
  rcases h.2 with ⟨rfl, -⟩ | ⟨g, cap, c, rfl, -, hg, -⟩
  · simp [Value.ownBlock] at e
  · simp only [Value.ownBlock, Option.some.injEq] at e
    subst e
    rw [hb] at hg
    cases hg
    exact hne rfl
end
section
variable {P : Program} {E T : Nat} (w : World) {ops : Array Oper} {rest : List Oper} {o : Oper} {a : Act} {Q : Exit → Act → World → Prop} {K : Act → World → Prop}
end
structure It where
  v : Value
  E : Nat
  sz : Nat
  n : Nat
  cells : List Value
def ints (E : Nat) (v : Value) (xs : List Int) : It := ⟨v, E, 1, xs.length, xs.map (Value.int .i64)⟩
def nds (E : Nat) (v : Value) (t : List Nd) : It := ⟨v, E, 4, t.length, t.flatMap ndCells⟩
structure Hold (w0 w : World) (L : List It) : Prop where
  below : Below w0.heap.size w0 w
  own : ∀ p ∈ L, w.ownsRow w0.heap.size p.E p.sz p.v p.n p.cells
  apart : L.Pairwise fun p q => ∀ k, p.v.ownBlock = some k → q.v.ownBlock ≠ some k
section
variable {w0 w w' : World} {L : List It} {E : Nat} {v : Value} {xs : List Int} {t : List Nd} {p : It}
theorem ownsRow_below {base e size n : Nat} {cs : List Value} (h : w.ownsRow base e size v n cs) (hb : Below w.heap.size w w') : w'.ownsRow base e size v n cs := by
  obtain ⟨h1, h2⟩ := h
  refine ⟨h1, ?_⟩
  rcases h2 with h2 | ⟨g, cap, cur, e, hg, hh, r⟩
  · exact .inl h2
  · exact .inr ⟨g, cap, cur, e, hg, by rw [hb.block g (Array.getElem?_eq_some_iff.1 hh).1]; exact hh, r⟩
theorem ownsRow_more {base base' e size n : Nat} {cs : List Value} (h : w.ownsRow base e size v n cs) (hb : base' ≤ base) : w.ownsRow base' e size v n cs := by
  obtain ⟨h1, h2⟩ := h
  refine ⟨h1, ?_⟩
  rcases h2 with h2 | ⟨g, cap, cur, e, hg, r⟩
  · exact .inl h2
  · exact .inr ⟨g, cap, cur, e, Nat.le_trans hb hg, r⟩
theorem Hold.start : Hold w w [] := ⟨Below.refl _ _, (fun _ h => by cases h), List.Pairwise.nil⟩
theorem Hold.still (h : Hold w0 w L) (b : Below w.heap.size w w') : Hold w0 w' L := ⟨below_two h.below b, fun p hp => ownsRow_below (h.own p hp) b, h.apart⟩
theorem Hold.make (h : Hold w0 w L) (o : w'.ownsRow w.heap.size p.E p.sz p.v p.n p.cells) (b : Below w.heap.size w w') : Hold w0 w' (p :: L) := by
  refine ⟨below_two h.below b, fun q hq => ?_, List.Pairwise.cons (fun q hq k hk e => ?_) h.apart⟩
  · rcases List.mem_cons.1 hq with rfl | hq
    · exact ownsRow_more o h.below.size
    · exact ownsRow_below (h.own q hq) b
  · have h1 := (World.ownsRow.lt o k hk).1
    have h2 := (World.ownsRow.lt (h.own q hq) k e).2
    omega
theorem Hold.mark (L1 : List It) {L2 : List It} {q : It} (h : Hold w0 w (L1 ++ p :: L2)) (hv : q.v = p.v) (o : w'.ownsRow w0.heap.size q.E q.sz q.v q.n q.cells) (g : w.grownBy w' p.v.ownBlock) : Hold w0 w' (L1 ++ q :: L2) := by
  have ho := h.own
  have ha := h.apart
  have hb : ∀ k, p.v.ownBlock = some k → w0.heap.size ≤ k := fun k hk => (World.ownsRow.lt (ho p (by simp)) k hk).1
  refine ⟨h.below.grown g h.below.size hb, fun r hr => ?_, ?_⟩
  · rw [List.mem_append, List.mem_cons] at hr
    rw [List.pairwise_append, List.pairwise_cons] at ha
    rcases hr with hr | rfl | hr
    · refine World.ownsRow.kept (ho r (by simp [hr])) g ?_
      cases hk : r.v.ownBlock with
      | none => exact .inl rfl
      | some k => exact .inr (fun e => ha.2.2 r hr p (by simp) k hk e.symm)
    · exact o
    · refine World.ownsRow.kept (ho r (by simp [hr])) g ?_
      cases hk : r.v.ownBlock with
      | none => exact .inl rfl
      | some k => exact .inr (fun e => ha.2.1.1 r hr k e.symm hk)
  · rw [List.pairwise_append, List.pairwise_cons] at ha ⊢
    refine ⟨ha.1, ⟨fun r hr k hk => ha.2.1.1 r hr k (by rw [← hv]; exact hk), ha.2.1.2⟩, fun r hr s hs k hk => ?_⟩
    rcases List.mem_cons.1 hs with rfl | hs
    · rw [hv]; exact ha.2.2 r hr p (by simp) k hk
    · exact ha.2.2 r hr s (by simp [hs]) k hk
end
end

section
open Go.RowKit
structure Mc where
  md : Md
  ao : Option Addr
  cap : Nat
def Mc.v (c : Mc) : Value := .slice c.ao c.md.next.length c.cap
def Mc.zero : Mc := ⟨Md.zero, none, 0⟩
def mcVal (c : Mc) : Value := .agg #[.int .i64 c.md.rounds, .int .i64 c.md.slots, .slice c.ao c.md.next.length c.cap]
def mcCells (c : Mc) : List Value := [.int .i64 c.md.rounds, .int .i64 c.md.slots, .slice c.ao c.md.next.length c.cap]
def mcOf (cs : List Mc) (i : Nat) : Mc := cs.getD i Mc.zero
def mds (cs : List Mc) : List Md := cs.map Mc.md
structure McIn (w : World) (b off : Nat) (c : Mc) : Prop where
  c0 : w.cell? ⟨b, off, none⟩ = some (.int .i64 c.md.rounds)
  c1 : w.cell? ⟨b, off + 1, none⟩ = some (.int .i64 c.md.slots)
  c2 : w.cell? ⟨b, off + 2, none⟩ = some (.slice c.ao c.md.next.length c.cap)
def McAt (T : Nat) (w : World) (b : Nat) (c : Mc) : Prop := w.heap[b]? = some (.cells #[.int .i64 c.md.rounds, .int .i64 c.md.slots, .slice c.ao c.md.next.length c.cap] T (0, 0))
structure McRd (w : World) (c : Mc) : Prop where
  rd : Rd w c.ao c.md.next.length c.md.next
  le : c.md.next.length ≤ c.cap
  cap : c.cap ≤ 9223372036854775807
structure RdM (w : World) (ao : Option Addr) (n : Nat) (cs : List Mc) : Prop where
  len : cs.length = n
  here : 0 < n → ∃ b off, ao = some ⟨b, off, none⟩ ∧ ∀ i, i < n → McIn w b (off + i * 3) (mcOf cs i)
  next : ∀ c ∈ cs, McRd w c
structure OwnM (E EI : Nat) (w : World) (base : Nat) (v : Value) (cs : List Mc) : Prop where
  row : w.ownsRow base E 3 v cs.length (cs.flatMap mcCells)
  nx : ∀ c ∈ cs, Own EI w base c.v c.md.next
  apart : cs.Pairwise fun p q => ∀ k, p.v.ownBlock = some k → q.v.ownBlock ≠ some k
theorem mds_len (cs : List Mc) : (mds cs).length = cs.length := List.length_map ..
theorem mcOf_get {cs : List Mc} {i : Nat} (h : i < cs.length) : mcOf cs i = cs[i] := by simp [mcOf, List.getD, List.getElem?_eq_getElem h]
theorem mcOf_mem {cs : List Mc} {i : Nat} (h : i < cs.length) : mcOf cs i ∈ cs := by rw [mcOf_get h]; exact List.getElem_mem h
theorem mdOf_mds (cs : List Mc) (i : Nat) : mdOf (mds cs) i = (mcOf cs i).md := by
  by_cases h : i < cs.length
  · rw [mdOf_get (by rw [mds_len]; exact h), mcOf_get h]; simp [mds]
  · rw [mdOf_out (by rw [mds_len]; exact h)]
    simp [mcOf, List.getD, List.getElem?_eq_none (Nat.not_lt.1 h), Mc.zero]
theorem mcOf_take {cs : List Mc} {k i : Nat} (h : i < k) : mcOf (cs.take k) i = mcOf cs i := by simp [mcOf, List.getD, h]
section
variable {w w' : World} {E EI T base n b off : Nat} {ao : Option Addr} {v : Value} {cs : List Mc} {c : Mc}
theorem McIn.lt (h : McIn w b off c) : b < w.heap.size := World.block_lt_of_cell? w _ h.c0
theorem McIn.below {B : Nat} (h : McIn w b off c) (hb : Below B w w') (hlt : b < B) : McIn w' b off c :=
  ⟨(hb.cell (p := ⟨b, off, none⟩) hlt).trans h.c0, (hb.cell (p := ⟨b, off + 1, none⟩) hlt).trans h.c1, (hb.cell (p := ⟨b, off + 2, none⟩) hlt).trans h.c2⟩
theorem McIn.grown {g : Option Nat} (h : McIn w b off c) (hg : w.grownBy w' g) (hne : some b ≠ g) : McIn w' b off c :=
  ⟨hg.cell h.c0 hne, hg.cell h.c1 hne, hg.cell h.c2 hne⟩
theorem McAt.in_ (h : McAt T w b c) : McIn w b 0 c := ⟨cell_of_row w b 0 _ _ (0, 0) h, cell_of_row w b 1 _ _ (0, 0) h, cell_of_row w b 2 _ _ (0, 0) h⟩
theorem McAt.f (h : McAt T w b c) (i : Nat) : w.frozen? ⟨b, i, none⟩ = false := frozen_of_row w b i _ _ h
theorem McAt.lt (h : McAt T w b c) : b < w.heap.size := (Array.getElem?_eq_some_iff.1 h).1
theorem McAt.below {B : Nat} (h : McAt T w b c) (hb : Below B w w') (hlt : b < B) : McAt T w' b c := (hb.block b hlt).trans h
theorem McAt.grown {g : Option Nat} (h : McAt T w b c) (hg : w.grownBy w' g) (hne : some b ≠ g) : McAt T w' b c := (hg.block b h.lt hne).trans h
theorem McAt.new (w : World) : McAt T (w.alloc (.cells #[.int .i64 c.md.rounds, .int .i64 c.md.slots, .slice c.ao c.md.next.length c.cap] T)) w.heap.size c := heap_alloc_new w _
theorem McRd.below (h : McRd w c) (hb : Below w.heap.size w w') : McRd w' c := ⟨h.rd.below hb, h.le, h.cap⟩
theorem RdM.nil_ : RdM w ao 0 [] := ⟨rfl, fun h => absurd h (by omega), fun _ h => by cases h⟩
theorem RdM.at (h : RdM w ao n cs) {i : Nat} (hi : i < n) : ∃ b off, ao = some ⟨b, off, none⟩ ∧ b < w.heap.size ∧ McIn w b (off + i * 3) (mcOf cs i) ∧ McRd w (mcOf cs i) := by
  obtain ⟨b, off, e, hc⟩ := h.here (by omega)
  exact ⟨b, off, e, (hc i hi).lt, hc i hi, h.next _ (mcOf_mem (by rw [h.len]; exact hi))⟩
theorem RdM.below (h : RdM w ao n cs) (hb : Below w.heap.size w w') : RdM w' ao n cs :=
  ⟨h.len, fun hn => by
    obtain ⟨b, off, e, hc⟩ := h.here hn
    exact ⟨b, off, e, fun i hi => (hc i hi).below hb (hc i hi).lt⟩, fun c hc => (h.next c hc).below hb⟩
theorem flatM_len (cs : List Mc) : (cs.flatMap mcCells).length = cs.length * 3 := by
  induction cs with
  | nil => rfl
  | cons a r ih => rw [List.flatMap_cons, List.length_append, ih]; simp [mcCells]; omega
theorem flatM_get (cs : List Mc) (i j : Nat) (hi : i < cs.length) (hj : j < 3) : (cs.flatMap mcCells)[i * 3 + j]? = (mcCells (mcOf cs i))[j]? := by
  induction cs generalizing i with
  | nil => simp at hi
  | cons a r ih =>
    cases i with
    | zero =>
      rw [List.flatMap_cons, List.getElem?_append_left (by simp [mcCells]; omega)]
      simp [mcOf]
    | succ i =>
      rw [List.flatMap_cons, List.getElem?_append_right (by simp [mcCells]; omega)]
      rw [show (i + 1) * 3 + j - (mcCells a).length = i * 3 + j from by simp [mcCells]; omega, ih i (by simpa using hi)]
      simp [mcOf]
theorem rows_ne {base' s s' m : Nat} {v2 : Value} {xs ys : List Value} (h1 : w.ownsRow base E s v n xs) (h2 : w.ownsRow base' EI s' v2 m ys) (hne : E ≠ EI) : ∀ k, v.ownBlock = some k → v2.ownBlock ≠ some k := by
  intro k e1 e2
  rcases h1.2 with ⟨rfl, -⟩ | ⟨g, cap, cur, rfl, -, hg, -⟩
  · simp [Value.ownBlock] at e1
  · simp only [Value.ownBlock, Option.some.injEq] at e1
    subst e1
    exact ownsRow_ne h2 hg hne e2.symm
theorem OwnM.below (h : OwnM E EI w base v cs) (hb : Below w.heap.size w w') : OwnM E EI w' base v cs := ⟨ownsRow_below h.row hb, fun c hc => (h.nx c hc).below hb, h.apart⟩
theorem OwnM.more (h : OwnM E EI w base v cs) {base' : Nat} (hb : base' ≤ base) : OwnM E EI w base' v cs := ⟨ownsRow_more h.row hb, fun c hc => (h.nx c hc).more hb, h.apart⟩
theorem Own.mcRd (h : Own EI w base c.v c.md.next) : McRd w c := by
  obtain ⟨ao', cap', e, r, h1, h2, -⟩ := h.form
  unfold Mc.v at e
  unfold maxLen at h2
  cases e
  exact ⟨r, h1, by omega⟩
theorem OwnM.form (h : OwnM E EI w base v cs) : ∃ ao cap, v = .slice ao cs.length cap ∧ RdM w ao cs.length cs ∧ cs.length ≤ cap ∧ cap ≤ maxLen ∧ (v = .slice none 0 0 ∨ ∃ g, ao = some ⟨g, 0, none⟩ ∧ base ≤ g ∧ g < w.heap.size) := by
  have hnx : ∀ c ∈ cs, McRd w c := fun c hc => (h.nx c hc).mcRd
  have h0 := h.row
  rcases h.row.2 with ⟨rfl, h2⟩ | ⟨g, cap, cur, rfl, hg, hh, hn, hcap, hsz, htake⟩
  · have : cs = [] := List.length_eq_zero_iff.1 h2
    subst this
    exact ⟨none, 0, rfl, RdM.nil_, Nat.le_refl _, by unfold maxLen; omega, .inl rfl⟩
  · have hc : ∀ i j, i < cs.length → j < 3 → w.cell? ⟨g, 0 + i * 3 + j, none⟩ = (mcCells (mcOf cs i))[j]? := fun i j hi hj => by
      rw [Nat.zero_add, World.ownsRow.cellAt h0 (i * 3 + j) (by omega), flatM_get cs i j hi hj]
    exact ⟨_, cap, rfl, ⟨rfl, fun _ => ⟨g, 0, rfl, fun i hi => ⟨hc i 0 hi (by omega), hc i 1 hi (by omega), hc i 2 hi (by omega)⟩⟩, hnx⟩, hn, hcap, .inr ⟨g, rfl, hg, (Array.getElem?_eq_some_iff.1 hh).1⟩⟩
theorem OwnM.cap {cap : Nat} (h : OwnM E EI w base (.slice ao n cap) cs) : n ≤ cap ∧ cap ≤ 9223372036854775807 := by
  obtain ⟨ao', cap', e, -, h1, h2, -⟩ := h.form
  cases e
  unfold maxLen at h2
  exact ⟨h1, by omega⟩
theorem OwnM.of_alloc_nil (hE : base ≤ w.heap.size) : OwnM E EI (w.alloc (.cells #[] E)) base (.slice (some ⟨w.heap.size, 0, none⟩) 0 0) [] :=
  ⟨World.ownsRow_made w #[] 0 hE (by unfold maxLen; omega) rfl, (fun _ h => by cases h), List.Pairwise.nil⟩
theorem OwnM.nil_ : OwnM E EI w base (.slice none 0 0) [] := ⟨World.ownsRow_nil _ _ _ _, (fun _ h => by cases h), List.Pairwise.nil⟩
theorem OwnM.get (h : OwnM E EI w base v cs) : ∃ ao cap, v = .slice ao cs.length cap ∧ OwnM E EI w base (.slice ao cs.length cap) cs ∧ RdM w ao cs.length cs := by
  obtain ⟨ao, cap, rfl, r, -, -, -⟩ := h.form
  exact ⟨ao, cap, rfl, h, r⟩
theorem OwnM.block (h : OwnM E EI w base v cs) : ∀ k, v.ownBlock = some k → base ≤ k ∧ k < w.heap.size := World.ownsRow.lt h.row
theorem OwnM.fresh {w1 : World} (h : OwnM E EI w base v cs) {u : Value} {xs : List Int} (o : Own EI w1 w.heap.size u xs) : ∀ d ∈ cs, ∀ k, d.v.ownBlock = some k → u.ownBlock ≠ some k := by
  intro d hd k e1 e2
  have h1 := ((h.nx d hd).block k e1).2
  have h2 := (o.block k e2).1
  omega
theorem OwnM.turned (hne : E ≠ EI) (h : OwnM E EI w base v cs) {g : Option Nat} (hg : w.grownBy w' g) (hv : g = none ∨ g = v.ownBlock) : ∀ c ∈ cs, Own EI w' base c.v c.md.next := by
  intro c hc
  have hne' : EI ≠ E := fun e => hne e.symm
  refine (h.nx c hc).only hg ?_
  rcases hb : c.v.ownBlock with _ | k
  · exact .inl rfl
  · refine .inr (fun e => ?_)
    rcases hv with rfl | rfl
    · cases e
    · exact rows_ne (show w.ownsRow base EI 1 c.v _ _ from h.nx c hc) h.row hne' k hb e.symm
def setMc (w : World) (b off : Nat) (c : Mc) : World := ((w.setCell ⟨b, off, none⟩ (.int .i64 c.md.rounds)).setCell ⟨b, off + 1, none⟩ (.int .i64 c.md.slots)).setCell ⟨b, off + 2, none⟩ (.slice c.ao c.md.next.length c.cap)
theorem below_mc {B b off : Nat} {w : World} (hb : B ≤ b) (c : Mc) : Below B w (setMc w b off c) := (((Below.refl _ _).setCell hb _).setCell hb _).setCell hb _
theorem McAt.set0 (h : McAt T w b c) (z : Int) : McAt T (w.setCell ⟨b, 0, none⟩ (.int .i64 z)) b ⟨⟨z, c.md.slots, c.md.next⟩, c.ao, c.cap⟩ := by
  have := heap_setCell_same w b 0 _ _ (.int .i64 z) h
  simpa [McAt] using this
theorem McAt.set1 (h : McAt T w b c) (z : Int) : McAt T (w.setCell ⟨b, 1, none⟩ (.int .i64 z)) b ⟨⟨c.md.rounds, z, c.md.next⟩, c.ao, c.cap⟩ := by
  have := heap_setCell_same w b 1 _ _ (.int .i64 z) h
  simpa [McAt] using this
theorem McAt.set2 (h : McAt T w b c) (xs : List Int) (ao : Option Addr) (cap : Nat) : McAt T (w.setCell ⟨b, 2, none⟩ (.slice ao xs.length cap)) b ⟨⟨c.md.rounds, c.md.slots, xs⟩, ao, cap⟩ := by
  have := heap_setCell_same w b 2 _ _ (.slice ao xs.length cap) h
  simpa [McAt] using this
theorem McAt.put {d : Mc} (h : McAt T w b c) : McAt T (setMc w b 0 d) b d := ((h.set0 d.md.rounds).set1 d.md.slots).set2 d.md.next d.ao d.cap
theorem McAt.other {d : Mc} {b' : Nat} (h : McAt T w b c) (hne : b ≠ b') : McAt T (setMc w b' off d) b c :=
  (heap_setCell_other _ _ _ _ hne).trans ((heap_setCell_other _ _ _ _ hne).trans ((heap_setCell_other _ _ _ _ hne).trans h))
end
theorem grown_set' (w : World) (g j : Nat) (v : Value) : w.grownBy (w.setCell ⟨g, j, none⟩ v) (some g) := ⟨rfl, rfl, rfl, by simp [World.setCell], fun k _ hne => heap_setCell_other _ _ _ _ (fun e => hne (by rw [e]))⟩
theorem mcOf_set {cs : List Mc} {k : Nat} (h : k < cs.length) (y : Mc) : mcOf (cs.set k y) k = y := by simp [mcOf, List.getD, h]
theorem flatM_set : ∀ (cs : List Mc) (k : Nat), k < cs.length → ∀ (j : Nat) (u : Value) (y : Mc), mcCells y = (mcCells (mcOf cs k)).set j u → j < 3 → (cs.flatMap mcCells).set (k * 3 + j) u = (cs.set k y).flatMap mcCells
  | [], _, h, _, _, _, _, _ => by simp at h
  | a :: r, 0, _, j, u, y, e, hj => by
    have e2 : mcOf (a :: r) 0 = a := by simp [mcOf]
    rw [e2] at e
    rw [List.set_cons_zero, List.flatMap_cons, List.flatMap_cons, e, Nat.zero_mul, Nat.zero_add]
    rw [List.set_append_left _ _ (by simp [mcCells]; omega)]
  | a :: r, k + 1, h, j, u, y, e, hj => by
    have e2 : mcOf (a :: r) (k + 1) = mcOf r k := by simp [mcOf]
    rw [e2] at e
    rw [List.set_cons_succ, List.flatMap_cons, List.flatMap_cons, List.set_append_right _ _ (by simp [mcCells]; omega)]
    rw [show (k + 1) * 3 + j - (mcCells a).length = k * 3 + j from by simp [mcCells]; omega, flatM_set r k (by simpa using h) j u y e hj]
section
variable {E EI : Nat} {w : World} {base g n cap : Nat} {cs : List Mc}
theorem rowM_field (ho : w.ownsRow base E 3 (.slice (some ⟨g, 0, none⟩) n cap) n (cs.flatMap mcCells)) (hl : cs.length = n) {k : Nat} (hk : k < n) {j : Nat} (hj : j < 3) {u : Value} {y : Mc} (e : mcCells y = (mcCells (mcOf cs k)).set j u) :
    w.frozen? ⟨g, k * 3 + j, none⟩ = false ∧ (w.setCell ⟨g, k * 3 + j, none⟩ u).ownsRow base E 3 (.slice (some ⟨g, 0, none⟩) n cap) n ((cs.set k y).flatMap mcCells) := by
  refine ⟨World.ownsRow.frozenAt ho _, ?_⟩
  have h := (World.ownsRow.stored ho (k * 3 + j) u).1
  rw [flatM_set cs k (by omega) j u y e hj] at h
  exact h
theorem rowM_in (ho : w.ownsRow base E 3 (.slice (some ⟨g, 0, none⟩) n cap) n (cs.flatMap mcCells)) (hl : cs.length = n) {k : Nat} (hk : k < n) : McIn w g (k * 3) (mcOf cs k) := by
  have hc : ∀ j, j < 3 → w.cell? ⟨g, k * 3 + j, none⟩ = (mcCells (mcOf cs k))[j]? := fun j hj => by
    rw [World.ownsRow.cellAt ho (k * 3 + j) (by omega), flatM_get cs k j (by omega) hj]
  exact ⟨hc 0 (by omega), hc 1 (by omega), hc 2 (by omega)⟩
theorem rowM_store (ho : w.ownsRow base E 3 (.slice (some ⟨g, 0, none⟩) n cap) n (cs.flatMap mcCells)) (hl : cs.length = n) {k : Nat} (hk : k < n) (x : Mc) :
    McIn w g (k * 3) (mcOf cs k) ∧ (w.frozen? ⟨g, k * 3, none⟩ = false ∧ w.frozen? ⟨g, k * 3 + 1, none⟩ = false ∧ w.frozen? ⟨g, k * 3 + 2, none⟩ = false) ∧
      (setMc w g (k * 3) x).ownsRow base E 3 (.slice (some ⟨g, 0, none⟩) n cap) n ((cs.set k x).flatMap mcCells) ∧ w.grownBy (setMc w g (k * 3) x) (some g) := by
  have hin := rowM_in ho hl hk
  have hkt : k < cs.length := by omega
  generalize hz : mcOf cs k = z at hin ⊢
  obtain ⟨f0, o0⟩ := rowM_field (j := 0) (u := .int .i64 x.md.rounds) (y := ⟨⟨x.md.rounds, z.md.slots, z.md.next⟩, z.ao, z.cap⟩) ho hl hk (by omega) (by rw [hz]; rfl)
  obtain ⟨f1, -⟩ := rowM_field (j := 1) (u := .int .i64 x.md.slots) (y := ⟨⟨z.md.rounds, x.md.slots, z.md.next⟩, z.ao, z.cap⟩) ho hl hk (by omega) (by rw [hz]; rfl)
  obtain ⟨f2, -⟩ := rowM_field (j := 2) (u := .slice x.ao x.md.next.length x.cap) (y := ⟨⟨z.md.rounds, z.md.slots, x.md.next⟩, x.ao, x.cap⟩) ho hl hk (by omega) (by rw [hz]; rfl)
  obtain ⟨-, o1⟩ := rowM_field (j := 1) (u := .int .i64 x.md.slots) (y := ⟨⟨x.md.rounds, x.md.slots, z.md.next⟩, z.ao, z.cap⟩) o0 (by rw [List.length_set]; exact hl) hk (by omega) (by rw [mcOf_set hkt]; rfl)
  rw [List.set_set] at o1
  obtain ⟨-, o2⟩ := rowM_field (j := 2) (u := .slice x.ao x.md.next.length x.cap) (y := x) o1 (by rw [List.length_set]; exact hl) hk (by omega) (by rw [mcOf_set hkt]; rfl)
  rw [List.set_set] at o2
  refine ⟨hin, ⟨f0, f1, f2⟩, o2, ?_⟩
  have gs : ∀ (w : World) (j : Nat) (v : Value), w.grownBy (w.setCell ⟨g, j, none⟩ v) (some g) := fun w j v => ⟨rfl, rfl, rfl, by simp [World.setCell], fun k _ hne => heap_setCell_other _ _ _ _ (fun e => hne (by rw [e]))⟩
  exact grown_trans (grown_trans (gs w _ _) (gs _ _ _)) (gs _ _ _)
theorem OwnM.store (hne : E ≠ EI) (ho : OwnM E EI w base (.slice (some ⟨g, 0, none⟩) n cap) cs) (hl : cs.length = n) {k : Nat} (hk : k < n) (x : Mc) (hx : Own EI w base x.v x.md.next) (ha : ∀ d ∈ cs, ∀ k, d.v.ownBlock = some k → x.v.ownBlock ≠ some k) :
    McIn w g (k * 3) (mcOf cs k) ∧ (w.frozen? ⟨g, k * 3, none⟩ = false ∧ w.frozen? ⟨g, k * 3 + 1, none⟩ = false ∧ w.frozen? ⟨g, k * 3 + 2, none⟩ = false) ∧
      OwnM E EI (setMc w g (k * 3) x) base (.slice (some ⟨g, 0, none⟩) n cap) (cs.set k x) ∧ Below base w (setMc w g (k * 3) x) := by
  have hr := ho.row
  rw [hl] at hr
  obtain ⟨h1, h2, h3, h4⟩ := rowM_store hr hl hk x
  refine ⟨h1, h2, ⟨by rw [List.length_set, hl]; exact h3, fun d hd => ?_, ?_⟩, below_mc (ho.block g rfl).1 x⟩
  · rcases List.mem_or_eq_of_mem_set hd with hd | rfl
    · exact ho.turned hne h4 (.inr rfl) d hd
    · refine hx.only h4 ?_
      rcases hb : d.v.ownBlock with _ | j
      · exact .inl rfl
      · exact .inr (fun e => rows_ne (show w.ownsRow base EI 1 d.v _ _ from hx) ho.row (fun e => hne e.symm) j hb (by rw [e]; rfl))
  · rw [List.pairwise_iff_getElem]
    intro i j hi hj hij b e
    have hp := List.pairwise_iff_getElem.1 ho.apart
    rw [List.length_set] at hi hj
    rw [List.getElem_set] at e ⊢
    split at e
    · rename_i e1
      rw [if_neg (by omega)]
      exact fun e2 => ha _ (List.getElem_mem hj) b e2 e
    · split
      · exact ha _ (List.getElem_mem hi) b e
      · exact hp i j hi hj hij b e
end
def OwnMs (E EI : Nat) (w : World) (base : Nat) (v : Value) (t : List Md) : Prop := ∃ cs, mds cs = t ∧ OwnM E EI w base v cs
theorem OwnM.old {w w' : World} {E EI base b : Nat} {v : Value} {cs : List Mc} (h : OwnM E EI w base v cs) (hg : w.grownBy w' (some b)) (hb : b < base) : OwnM E EI w' base v cs := by
  have hk : ∀ u : Value, (∀ k, u.ownBlock = some k → base ≤ k) → u.ownBlock = none ∨ u.ownBlock ≠ some b := fun u hu => by
    rcases e : u.ownBlock with _ | k
    · exact .inl rfl
    · refine .inr (fun e2 => ?_)
      have := hu k e
      cases e2
      omega
  exact ⟨World.ownsRow.kept h.row hg (hk v (fun k e => (h.block k e).1)), fun c hc => (h.nx c hc).only hg (hk c.v (fun k e => ((h.nx c hc).block k e).1)), h.apart⟩
theorem OwnMs.old {w w' : World} {E EI base b : Nat} {v : Value} {t : List Md} (h : OwnMs E EI w base v t) (hg : w.grownBy w' (some b)) (hb : b < base) : OwnMs E EI w' base v t := by
  obtain ⟨cs, h1, h2⟩ := h
  exact ⟨cs, h1, h2.old hg hb⟩
theorem OwnMs.below {w w' : World} {E EI base : Nat} {v : Value} {t : List Md} (h : OwnMs E EI w base v t) (hb : Below w.heap.size w w') : OwnMs E EI w' base v t := by
  obtain ⟨cs, h1, h2⟩ := h
  exact ⟨cs, h1, h2.below hb⟩
theorem OwnMs.more {w : World} {E EI base base' : Nat} {v : Value} {t : List Md} (h : OwnMs E EI w base v t) (hb : base' ≤ base) : OwnMs E EI w base' v t := by
  obtain ⟨cs, h1, h2⟩ := h
  exact ⟨cs, h1, h2.more hb⟩
theorem OwnMs.nil_ {w : World} {E EI base : Nat} : OwnMs E EI w base (.slice none 0 0) [] := ⟨[], rfl, OwnM.nil_⟩
def MakesM (E EI : Nat) (w : World) (t : List Md) (e : Ending) (w' : World) : Prop :=
  ∃ v, e = .returned v ∧ OwnMs E EI w' w.heap.size v t ∧ Below w.heap.size w w'
section
variable {w w' : World} {E EI : Nat} {t : List Md} {e : Ending} {c d : Int}
theorem MakesM.get (h : MakesM E EI w t e w') : ∃ ao cap cs, mds cs = t ∧ e = .returned (.slice ao cs.length cap) ∧ OwnM E EI w' w.heap.size (.slice ao cs.length cap) cs ∧ RdM w' ao cs.length cs ∧ Below w.heap.size w w' := by
  obtain ⟨v, rfl, ⟨cs, h1, o⟩, b⟩ := h
  obtain ⟨ao, cap, rfl, o, r⟩ := o.get
  exact ⟨ao, cap, cs, h1, rfl, o, r, b⟩
end
abbrev InfoMd (P : Program) (E : Nat) : Prop := (P.info? E).map (fun i => (i.zero, i.size, i.bytes)) = some (some (mcVal Mc.zero), 3, 40)
theorem info_parts_m {P : Program} {E : Nat} (h : InfoMd P E) : ∃ i, P.info? E = some i ∧ i.zero = some (mcVal Mc.zero) ∧ i.size = 3 ∧ i.bytes = 40 := by
  unfold InfoMd at h
  cases hi : P.info? E with
  | none => rw [hi] at h; cases h
  | some i =>
    rw [hi] at h
    simp only [Option.map_some, Option.some.injEq, Prod.mk.injEq] at h
    exact ⟨i, rfl, h.1, h.2.1, h.2.2⟩
theorem cells_zero_m : (mcVal Mc.zero).cells = #[.int .i64 0, .int .i64 0, .slice none 0 0] := rfl
theorem madeM (n : Nat) : (madeCells (mcVal Mc.zero).cells (n * 3)).toList = (List.replicate n Mc.zero).flatMap mcCells := by
  apply List.ext_getElem?
  intro i
  by_cases h : i < n * 3
  · have hi : i = (i / 3) * 3 + i % 3 := by omega
    have h4 : i % 3 < 3 := by omega
    conv => rhs; rw [hi]
    rw [flatM_get _ _ _ (by rw [List.length_replicate]; omega) h4]
    have hz : mcOf (List.replicate n Mc.zero) (i / 3) = Mc.zero := by
      rw [mcOf_get (by rw [List.length_replicate]; omega), List.getElem_replicate]
    rw [hz, cells_zero_m]
    unfold madeCells
    rw [Array.toList_map, List.getElem?_map, Array.toList_range, List.getElem?_range h]
    simp only [Option.map_some]
    have h5 : #[Value.int .i64 0, .int .i64 0, .slice none 0 0].size = 3 := rfl
    rw [h5]
    generalize i % 3 = j at h4
    match j, h4 with
    | 0, _ => rfl
    | 1, _ => rfl
    | 2, _ => rfl
  · rw [List.getElem?_eq_none (by rw [Array.length_toList, size_madeCells]; omega), List.getElem?_eq_none (by rw [flatM_len, List.length_replicate]; omega)]
section
variable {P : Program} {E EI T : Nat} (w : World) {ops : Array Oper} {rest : List Oper} {o : Oper} {a : Act} {Q : Exit → Act → World → Prop} {K : Act → World → Prop}
theorem make_md (hg : o.guard = none) (l c : Operand) (hop : o.op = Op.makeSlice T l c) (base : Nat) (ht : P.underlying T = some (.slice E)) (hi : InfoMd P E)
    (kl kc : IntKind) (L C : Int) (n : Nat) (hl : a.eval l = .int kl L) (hc : a.eval c = .int kc C) (hL : L = (n : Int)) (hC : C = (n : Int)) (hm : n ≤ 4294967296) (hb : base ≤ w.heap.size)
    (hK : ∀ w', OwnM E EI w' base (.slice (some ⟨w.heap.size, 0, none⟩) n n) (List.replicate n Mc.zero) → Below base w w' → wpList P ops Q rest (a.put o.dst (.slice (some ⟨w.heap.size, 0, none⟩) n n)) w') :
    wpList P ops Q (o :: rest) a w := by
  obtain ⟨i0, hi, hz0, hz1, hz2⟩ := info_parts_m hi
  refine wpList_make_full w hg l c T hop base E i0 (mcVal Mc.zero) 3 ht hi hz0 hz1 kl kc L C n hl hc hL hC (by rw [hz2]; omega) (by unfold maxLen; omega) hb ?_
  intro w' h1 h2
  refine hK w' ⟨?_, fun c hc => ?_, ?_⟩ ((Below.refl _ _).grown h2 hb (fun k h => by cases h))
  · rw [List.length_replicate, ← madeM]
    exact h1
  · rw [List.eq_of_mem_replicate hc]
    exact Own.nil_
  · rw [List.pairwise_iff_getElem]
    intro i j hi hj hij b e
    rw [List.getElem_replicate] at e
    cases e
end
def mrow (E : Nat) (v : Value) (cs : List Mc) : It := ⟨v, E, 3, cs.length, cs.flatMap mcCells⟩
def nxs (EI : Nat) (cs : List Mc) : List It := cs.map fun c => ints EI c.v c.md.next
def mis (E EI : Nat) (v : Value) (cs : List Mc) : List It := mrow E v cs :: nxs EI cs
section
variable {w0 w w' : World} {L : List It} {E EI : Nat} {v : Value} {cs : List Mc}
theorem Hold.makeL (h : Hold w0 w L) (L1 : List It) (o : ∀ p ∈ L1, w'.ownsRow w.heap.size p.E p.sz p.v p.n p.cells) (ap : L1.Pairwise fun p q => ∀ k, p.v.ownBlock = some k → q.v.ownBlock ≠ some k) (b : Below w.heap.size w w') : Hold w0 w' (L1 ++ L) := by
  refine ⟨below_two h.below b, fun q hq => ?_, ?_⟩
  · rcases List.mem_append.1 hq with hq | hq
    · exact ownsRow_more (o q hq) h.below.size
    · exact ownsRow_below (h.own q hq) b
  · rw [List.pairwise_append]
    refine ⟨ap, h.apart, fun p hp q hq k hk e => ?_⟩
    have h1 := (World.ownsRow.lt (o p hp) k hk).1
    have h2 := (World.ownsRow.lt (h.own q hq) k e).2
    omega
theorem OwnM.items (hne : E ≠ EI) {base : Nat} (h : OwnM E EI w base v cs) : (∀ p ∈ mis E EI v cs, w.ownsRow base p.E p.sz p.v p.n p.cells) ∧ (mis E EI v cs).Pairwise fun p q => ∀ k, p.v.ownBlock = some k → q.v.ownBlock ≠ some k := by
  refine ⟨fun p hp => ?_, ?_⟩
  · rcases List.mem_cons.1 hp with rfl | hp
    · exact h.row
    · obtain ⟨c, hc, rfl⟩ := List.mem_map.1 hp
      exact h.nx c hc
  · refine List.Pairwise.cons (fun p hp k e1 e2 => ?_) ?_
    · obtain ⟨c, hc, rfl⟩ := List.mem_map.1 hp
      exact rows_ne h.row (h.nx c hc) hne k e1 e2
    · exact List.Pairwise.map _ (fun p q h => h) h.apart
theorem Hold.getM {L1 L2 : List It} (h : Hold w0 w (L1 ++ (mis E EI v cs ++ L2))) : OwnM E EI w w0.heap.size v cs := by
  refine ⟨h.own (mrow E v cs) (by simp [mis]), fun c hc => h.own (ints EI c.v c.md.next) ?_, ?_⟩
  · simp only [List.mem_append]
    exact .inr (.inl (List.mem_cons_of_mem _ (List.mem_map_of_mem hc)))
  · have h1 := (List.pairwise_append.1 (List.pairwise_append.1 h.apart).2.1).1
    have h2 := (List.pairwise_cons.1 h1).2
    unfold nxs at h2
    rw [List.pairwise_map] at h2
    exact h2
end
end

section
open Go.RowKit
def slVal (x : Sl) : Value := .agg #[.int .i64 x.mode, .int .i64 x.round, .int .i64 x.slot, .int .i64 x.desc.node, .int .i64 x.desc.kind, .int .i64 x.desc.size, .int .i64 x.desc.dur, .bool x.desc.chg]
def slCells (x : Sl) : List Value := [.int .i64 x.mode, .int .i64 x.round, .int .i64 x.slot, .int .i64 x.desc.node, .int .i64 x.desc.kind, .int .i64 x.desc.size, .int .i64 x.desc.dur, .bool x.desc.chg]
structure SlIn (w : World) (b off : Nat) (x : Sl) : Prop where
  c0 : w.cell? ⟨b, off, none⟩ = some (.int .i64 x.mode)
  c1 : w.cell? ⟨b, off + 1, none⟩ = some (.int .i64 x.round)
  c2 : w.cell? ⟨b, off + 2, none⟩ = some (.int .i64 x.slot)
  c3 : w.cell? ⟨b, off + 3, none⟩ = some (.int .i64 x.desc.node)
  c4 : w.cell? ⟨b, off + 4, none⟩ = some (.int .i64 x.desc.kind)
  c5 : w.cell? ⟨b, off + 5, none⟩ = some (.int .i64 x.desc.size)
  c6 : w.cell? ⟨b, off + 6, none⟩ = some (.int .i64 x.desc.dur)
  c7 : w.cell? ⟨b, off + 7, none⟩ = some (.bool x.desc.chg)
def SlBk (T : Nat) (w : World) (b : Nat) (x : Sl) : Prop := w.heap[b]? = some (.cells #[.int .i64 x.mode, .int .i64 x.round, .int .i64 x.slot, .int .i64 x.desc.node, .int .i64 x.desc.kind, .int .i64 x.desc.size, .int .i64 x.desc.dur, .bool x.desc.chg] T (0, 0))
structure RdE (w : World) (ao : Option Addr) (n : Nat) (t : List Sl) : Prop where
  len : t.length = n
  here : 0 < n → ∃ b off, ao = some ⟨b, off, none⟩ ∧ ∀ i, i < n → SlIn w b (off + i * 8) (slOf t i)
def OwnE (E : Nat) (w : World) (base : Nat) (v : Value) (t : List Sl) : Prop := w.ownsRow base E 8 v t.length (t.flatMap slCells)
def setSl (w : World) (b off : Nat) (x : Sl) : World := (((((((w.setCell ⟨b, off, none⟩ (.int .i64 x.mode)).setCell ⟨b, off + 1, none⟩ (.int .i64 x.round)).setCell ⟨b, off + 2, none⟩ (.int .i64 x.slot)).setCell ⟨b, off + 3, none⟩ (.int .i64 x.desc.node)).setCell ⟨b, off + 4, none⟩ (.int .i64 x.desc.kind)).setCell ⟨b, off + 5, none⟩ (.int .i64 x.desc.size)).setCell ⟨b, off + 6, none⟩ (.int .i64 x.desc.dur)).setCell ⟨b, off + 7, none⟩ (.bool x.desc.chg)
section
variable {w w' : World} {E T base n b off : Nat} {ao : Option Addr} {v : Value} {t : List Sl} {x : Sl}
theorem SlIn.lt (h : SlIn w b off x) : b < w.heap.size := World.block_lt_of_cell? w _ h.c0
theorem SlIn.below {B : Nat} (h : SlIn w b off x) (hb : Below B w w') (hlt : b < B) : SlIn w' b off x :=
  ⟨(hb.cell (p := ⟨b, off, none⟩) hlt).trans h.c0, (hb.cell (p := ⟨b, off + 1, none⟩) hlt).trans h.c1, (hb.cell (p := ⟨b, off + 2, none⟩) hlt).trans h.c2, (hb.cell (p := ⟨b, off + 3, none⟩) hlt).trans h.c3, (hb.cell (p := ⟨b, off + 4, none⟩) hlt).trans h.c4, (hb.cell (p := ⟨b, off + 5, none⟩) hlt).trans h.c5, (hb.cell (p := ⟨b, off + 6, none⟩) hlt).trans h.c6, (hb.cell (p := ⟨b, off + 7, none⟩) hlt).trans h.c7⟩
theorem SlIn.grown {g : Option Nat} (h : SlIn w b off x) (hg : w.grownBy w' g) (hne : some b ≠ g) : SlIn w' b off x :=
  ⟨hg.cell h.c0 hne, hg.cell h.c1 hne, hg.cell h.c2 hne, hg.cell h.c3 hne, hg.cell h.c4 hne, hg.cell h.c5 hne, hg.cell h.c6 hne, hg.cell h.c7 hne⟩
theorem SlBk.in_ (h : SlBk T w b x) : SlIn w b 0 x := ⟨cell_of_row w b 0 _ _ (0, 0) h, cell_of_row w b 1 _ _ (0, 0) h, cell_of_row w b 2 _ _ (0, 0) h, cell_of_row w b 3 _ _ (0, 0) h, cell_of_row w b 4 _ _ (0, 0) h, cell_of_row w b 5 _ _ (0, 0) h, cell_of_row w b 6 _ _ (0, 0) h, cell_of_row w b 7 _ _ (0, 0) h⟩
theorem SlBk.f (h : SlBk T w b x) (i : Nat) : w.frozen? ⟨b, i, none⟩ = false := frozen_of_row w b i _ _ h
theorem SlBk.lt (h : SlBk T w b x) : b < w.heap.size := (Array.getElem?_eq_some_iff.1 h).1
theorem SlBk.below {B : Nat} (h : SlBk T w b x) (hb : Below B w w') (hlt : b < B) : SlBk T w' b x := (hb.block b hlt).trans h
theorem SlBk.grown {g : Option Nat} (h : SlBk T w b x) (hg : w.grownBy w' g) (hne : some b ≠ g) : SlBk T w' b x := (hg.block b h.lt hne).trans h
theorem SlBk.new (w : World) : SlBk T (w.alloc (.cells #[.int .i64 x.mode, .int .i64 x.round, .int .i64 x.slot, .int .i64 x.desc.node, .int .i64 x.desc.kind, .int .i64 x.desc.size, .int .i64 x.desc.dur, .bool x.desc.chg] T)) w.heap.size x := heap_alloc_new w _
theorem below_setSl {B b off : Nat} {w : World} (hb : B ≤ b) (x : Sl) : Below B w (setSl w b off x) := ((((((((Below.refl _ _).setCell hb _).setCell hb _).setCell hb _).setCell hb _).setCell hb _).setCell hb _).setCell hb _).setCell hb _
theorem RdE.nil_ : RdE w ao 0 [] := ⟨rfl, fun h => absurd h (by omega)⟩
theorem RdE.at (h : RdE w ao n t) {i : Nat} (hi : i < n) : ∃ b off, ao = some ⟨b, off, none⟩ ∧ b < w.heap.size ∧ SlIn w b (off + i * 8) (slOf t i) := by
  obtain ⟨b, off, e, hc⟩ := h.here (by omega)
  exact ⟨b, off, e, (hc i hi).lt, hc i hi⟩
theorem RdE.below (h : RdE w ao n t) (hb : Below w.heap.size w w') : RdE w' ao n t :=
  ⟨h.len, fun hn => by
    obtain ⟨b, off, e, hc⟩ := h.here hn
    exact ⟨b, off, e, fun i hi => (hc i hi).below hb (hc i hi).lt⟩⟩
theorem RdE.only {g : Option Nat} (h : RdE w ao n t) (ho : w.grownBy w' g) (hg : ∀ b off, ao = some ⟨b, off, none⟩ → g ≠ some b) : RdE w' ao n t :=
  ⟨h.len, fun hn => by
    obtain ⟨b, off, e, hc⟩ := h.here hn
    exact ⟨b, off, e, fun i hi => (hc i hi).grown ho (fun h => hg b off e h.symm)⟩⟩
theorem slOf_take {k i : Nat} (h : i < k) : slOf (t.take k) i = slOf t i := by simp [slOf, List.getD, h]
theorem RdE.take (h : RdE w ao n t) {k : Nat} (hk : k ≤ n) : RdE w ao k (t.take k) :=
  ⟨by rw [List.length_take, h.len]; omega, fun h0 => by
    obtain ⟨b, off, e, hc⟩ := h.here (by omega)
    exact ⟨b, off, e, fun i hi => by rw [slOf_take hi]; exact hc i (by omega)⟩⟩
theorem flatE_len (t : List Sl) : (t.flatMap slCells).length = t.length * 8 := by
  induction t with
  | nil => rfl
  | cons a r ih => rw [List.flatMap_cons, List.length_append, ih]; simp [slCells]; omega
theorem flatE_get (t : List Sl) (i j : Nat) (hi : i < t.length) (hj : j < 8) : (t.flatMap slCells)[i * 8 + j]? = (slCells (slOf t i))[j]? := by
  induction t generalizing i with
  | nil => simp at hi
  | cons a r ih =>
    cases i with
    | zero =>
      rw [List.flatMap_cons, List.getElem?_append_left (by simp [slCells]; omega)]
      simp [slOf]
    | succ i =>
      rw [List.flatMap_cons, List.getElem?_append_right (by simp [slCells]; omega)]
      rw [show (i + 1) * 8 + j - (slCells a).length = i * 8 + j from by simp [slCells]; omega, ih i (by simpa using hi)]
      simp [slOf]
theorem OwnE.below (h : OwnE E w base v t) (hb : Below w.heap.size w w') : OwnE E w' base v t := by
  obtain ⟨h1, h2⟩ := h
  refine ⟨h1, ?_⟩
  rcases h2 with h2 | ⟨g, cap, cur, e, hg, hh, r⟩
  · exact .inl h2
  · exact .inr ⟨g, cap, cur, e, hg, by rw [hb.block g (Array.getElem?_eq_some_iff.1 hh).1]; exact hh, r⟩
theorem OwnE.more (h : OwnE E w base v t) {base' : Nat} (hb : base' ≤ base) : OwnE E w base' v t := by
  obtain ⟨h1, h2⟩ := h
  refine ⟨h1, ?_⟩
  rcases h2 with h2 | ⟨g, cap, cur, e, hg, r⟩
  · exact .inl h2
  · exact .inr ⟨g, cap, cur, e, Nat.le_trans hb hg, r⟩
theorem OwnE.block (h : OwnE E w base v t) : ∀ k, v.ownBlock = some k → base ≤ k ∧ k < w.heap.size := World.ownsRow.lt h
theorem OwnE.form (h : OwnE E w base v t) : ∃ ao cap, v = .slice ao t.length cap ∧ RdE w ao t.length t ∧ t.length ≤ cap ∧ cap ≤ maxLen ∧ (v = .slice none 0 0 ∨ ∃ g, ao = some ⟨g, 0, none⟩ ∧ base ≤ g ∧ g < w.heap.size) := by
  have h0 := h
  obtain ⟨h1, h2⟩ := h
  rcases h2 with ⟨rfl, h2⟩ | ⟨g, cap, cur, rfl, hg, hh, hn, hcap, hsz, htake⟩
  · have : t = [] := List.length_eq_zero_iff.1 h2
    subst this
    exact ⟨none, 0, rfl, RdE.nil_, Nat.le_refl _, by unfold maxLen; omega, .inl rfl⟩
  · unfold OwnE at h0
    have hc : ∀ i j, i < t.length → j < 8 → w.cell? ⟨g, 0 + i * 8 + j, none⟩ = (slCells (slOf t i))[j]? := fun i j hi hj => by
      rw [Nat.zero_add, World.ownsRow.cellAt h0 (i * 8 + j) (by omega), flatE_get t i j hi hj]
    exact ⟨_, cap, rfl, ⟨rfl, fun _ => ⟨g, 0, rfl, fun i hi => ⟨hc i 0 hi (by omega), hc i 1 hi (by omega), hc i 2 hi (by omega), hc i 3 hi (by omega), hc i 4 hi (by omega), hc i 5 hi (by omega), hc i 6 hi (by omega), hc i 7 hi (by omega)⟩⟩⟩, hn, hcap, .inr ⟨g, rfl, hg, (Array.getElem?_eq_some_iff.1 hh).1⟩⟩
theorem OwnE.cap {cap : Nat} (h : OwnE E w base (.slice ao n cap) t) : n ≤ cap ∧ cap ≤ 9223372036854775807 := by
  obtain ⟨ao', cap', e, -, h1, h2, -⟩ := h.form
  cases e
  unfold maxLen at h2
  exact ⟨h1, by omega⟩
theorem OwnE.of_alloc_nil (hE : base ≤ w.heap.size) : OwnE E (w.alloc (.cells #[] E)) base (.slice (some ⟨w.heap.size, 0, none⟩) 0 0) [] :=
  World.ownsRow_made w #[] 0 hE (by unfold maxLen; omega) rfl
theorem OwnE.nil_ : OwnE E w base (.slice none 0 0) [] := World.ownsRow_nil _ _ _ _
theorem OwnE.get (h : OwnE E w base v t) : ∃ ao cap, v = .slice ao t.length cap ∧ OwnE E w base (.slice ao t.length cap) t ∧ RdE w ao t.length t := by
  obtain ⟨ao, cap, rfl, r, -, -, -⟩ := h.form
  exact ⟨ao, cap, rfl, h, r⟩
theorem OwnE.only {g : Option Nat} (h : OwnE E w base v t) (ho : w.grownBy w' g) (hg : v.ownBlock = none ∨ v.ownBlock ≠ g) : OwnE E w' base v t := World.ownsRow.kept h ho hg
theorem OwnE.old {p : Nat} (h : OwnE E w base v t) (hg : w.grownBy w' (some p)) (hp : p < base) : OwnE E w' base v t := by
  refine h.only hg ?_
  cases hk : v.ownBlock with
  | none => exact .inl rfl
  | some k => exact .inr (fun e => by cases e; have := (h.block _ hk).1; omega)
end
def MakesE (E : Nat) (w : World) (t : List Sl) (e : Ending) (w' : World) : Prop :=
  ∃ v, e = .returned v ∧ OwnE E w' w.heap.size v t ∧ Below w.heap.size w w'
section
variable {w w' : World} {E : Nat} {t : List Sl} {e : Ending} {c d : Int}
theorem MakesE.get (h : MakesE E w t e w') : ∃ ao cap, e = .returned (.slice ao t.length cap) ∧ OwnE E w' w.heap.size (.slice ao t.length cap) t ∧ RdE w' ao t.length t ∧ Below w.heap.size w w' := by
  obtain ⟨v, rfl, o, b⟩ := h
  obtain ⟨ao, cap, rfl, o, r⟩ := o.get
  exact ⟨ao, cap, rfl, o, r, b⟩
end
theorem slOf_set {t : List Sl} {k : Nat} (h : k < t.length) (y : Sl) : slOf (t.set k y) k = y := by simp [slOf, List.getD, h]
theorem flatE_set : ∀ (t : List Sl) (k : Nat), k < t.length → ∀ (j : Nat) (u : Value) (y : Sl), slCells y = (slCells (slOf t k)).set j u → j < 8 → (t.flatMap slCells).set (k * 8 + j) u = (t.set k y).flatMap slCells
  | [], _, h, _, _, _, _, _ => by simp at h
  | a :: r, 0, _, j, u, y, e, hj => by
    have e2 : slOf (a :: r) 0 = a := by simp [slOf]
    rw [e2] at e
    rw [List.set_cons_zero, List.flatMap_cons, List.flatMap_cons, e, Nat.zero_mul, Nat.zero_add]
    rw [List.set_append_left _ _ (by simp [slCells]; omega)]
  | a :: r, k + 1, h, j, u, y, e, hj => by
    have e2 : slOf (a :: r) (k + 1) = slOf r k := by simp [slOf]
    rw [e2] at e
    rw [List.set_cons_succ, List.flatMap_cons, List.flatMap_cons, List.set_append_right _ _ (by simp [slCells]; omega)]
    rw [show (k + 1) * 8 + j - (slCells a).length = k * 8 + j from by simp [slCells]; omega, flatE_set r k (by simpa using h) j u y e hj]
section
variable {E : Nat} {w : World} {base g n cap : Nat} {t : List Sl}
theorem OwnE.in_ (ho : OwnE E w base (.slice (some ⟨g, 0, none⟩) n cap) t) (hl : t.length = n) {k : Nat} (hk : k < n) : SlIn w g (k * 8) (slOf t k) := by
  obtain ⟨ao, cap', e, r, -⟩ := ho.form
  cases e
  obtain ⟨b, off, e, -, h⟩ := r.at (i := k) (by omega)
  cases e
  rwa [Nat.zero_add] at h
theorem OwnE.field (ho : OwnE E w base (.slice (some ⟨g, 0, none⟩) n cap) t) (hl : t.length = n) {k : Nat} (hk : k < n) {j : Nat} (hj : j < 8) {u : Value} {y : Sl} (e : slCells y = (slCells (slOf t k)).set j u) :
    w.frozen? ⟨g, k * 8 + j, none⟩ = false ∧ OwnE E (w.setCell ⟨g, k * 8 + j, none⟩ u) base (.slice (some ⟨g, 0, none⟩) n cap) (t.set k y) ∧ Below base w (w.setCell ⟨g, k * 8 + j, none⟩ u) := by
  have hb := (ho.block g rfl).1
  unfold OwnE at ho ⊢
  rw [hl] at ho
  refine ⟨World.ownsRow.frozenAt ho _, ?_, (Below.refl _ _).setCell (by exact hb) _⟩
  have h := (World.ownsRow.stored ho (k * 8 + j) u).1
  rw [flatE_set t k (by omega) j u y e hj] at h
  rw [List.length_set, hl]
  exact h
theorem OwnE.store (ho : OwnE E w base (.slice (some ⟨g, 0, none⟩) n cap) t) (hl : t.length = n) {k : Nat} (hk : k < n) (x : Sl) :
    SlIn w g (k * 8) (slOf t k) ∧ (∀ j, w.frozen? ⟨g, j, none⟩ = false) ∧
      OwnE E (setSl w g (k * 8) x) base (.slice (some ⟨g, 0, none⟩) n cap) (t.set k x) ∧ Below base w (setSl w g (k * 8) x) := by
  have hin := ho.in_ hl hk
  have hkt : k < t.length := by omega
  generalize hz : slOf t k = z at hin ⊢

  obtain ⟨-, o0, b0⟩ := ho.field (j := 0) (u := .int .i64 x.mode) (y := ⟨x.mode, z.round, z.slot, ⟨z.desc.node, z.desc.kind, z.desc.size, z.desc.dur, z.desc.chg⟩⟩) hl hk (by omega) (by rw [hz]; rfl)
  obtain ⟨-, o1, b1⟩ := o0.field (j := 1) (u := .int .i64 x.round) (y := ⟨x.mode, x.round, z.slot, ⟨z.desc.node, z.desc.kind, z.desc.size, z.desc.dur, z.desc.chg⟩⟩) (by rw [List.length_set]; exact hl) hk (by omega) (by rw [slOf_set hkt]; rfl)
  rw [List.set_set] at o1
  obtain ⟨-, o2, b2⟩ := o1.field (j := 2) (u := .int .i64 x.slot) (y := ⟨x.mode, x.round, x.slot, ⟨z.desc.node, z.desc.kind, z.desc.size, z.desc.dur, z.desc.chg⟩⟩) (by rw [List.length_set]; exact hl) hk (by omega) (by rw [slOf_set hkt]; rfl)
  rw [List.set_set] at o2
  obtain ⟨-, o3, b3⟩ := o2.field (j := 3) (u := .int .i64 x.desc.node) (y := ⟨x.mode, x.round, x.slot, ⟨x.desc.node, z.desc.kind, z.desc.size, z.desc.dur, z.desc.chg⟩⟩) (by rw [List.length_set]; exact hl) hk (by omega) (by rw [slOf_set hkt]; rfl)
  rw [List.set_set] at o3
  obtain ⟨-, o4, b4⟩ := o3.field (j := 4) (u := .int .i64 x.desc.kind) (y := ⟨x.mode, x.round, x.slot, ⟨x.desc.node, x.desc.kind, z.desc.size, z.desc.dur, z.desc.chg⟩⟩) (by rw [List.length_set]; exact hl) hk (by omega) (by rw [slOf_set hkt]; rfl)
  rw [List.set_set] at o4
  obtain ⟨-, o5, b5⟩ := o4.field (j := 5) (u := .int .i64 x.desc.size) (y := ⟨x.mode, x.round, x.slot, ⟨x.desc.node, x.desc.kind, x.desc.size, z.desc.dur, z.desc.chg⟩⟩) (by rw [List.length_set]; exact hl) hk (by omega) (by rw [slOf_set hkt]; rfl)
  rw [List.set_set] at o5
  obtain ⟨-, o6, b6⟩ := o5.field (j := 6) (u := .int .i64 x.desc.dur) (y := ⟨x.mode, x.round, x.slot, ⟨x.desc.node, x.desc.kind, x.desc.size, x.desc.dur, z.desc.chg⟩⟩) (by rw [List.length_set]; exact hl) hk (by omega) (by rw [slOf_set hkt]; rfl)
  rw [List.set_set] at o6
  obtain ⟨-, o7, b7⟩ := o6.field (j := 7) (u := .bool x.desc.chg) (y := x) (by rw [List.length_set]; exact hl) hk (by omega) (by rw [slOf_set hkt]; rfl)
  rw [List.set_set] at o7
  have hfz : ∀ j, w.frozen? ⟨g, j, none⟩ = false := fun j => by unfold OwnE at ho; rw [hl] at ho; exact World.ownsRow.frozenAt ho j
  exact ⟨hin, hfz, o7, (((((((b0).trans b1).trans b2).trans b3).trans b4).trans b5).trans b6).trans b7⟩
end
abbrev InfoSl (P : Program) (E : Nat) : Prop := (P.info? E).map (fun i => (i.zero, i.size, i.bytes)) = some (some (slVal Sl.zero), 8, 64)
theorem info_parts_sl {P : Program} {E : Nat} (h : InfoSl P E) : ∃ i, P.info? E = some i ∧ i.zero = some (slVal Sl.zero) ∧ i.size = 8 ∧ i.bytes = 64 := by
  unfold InfoSl at h
  cases hi : P.info? E with
  | none => rw [hi] at h; cases h
  | some i =>
    rw [hi] at h
    simp only [Option.map_some, Option.some.injEq, Prod.mk.injEq] at h
    exact ⟨i, rfl, h.1, h.2.1, h.2.2⟩
theorem cells_zero_sl : (slVal Sl.zero).cells = #[.int .i64 0, .int .i64 0, .int .i64 0, .int .i64 0, .int .i64 0, .int .i64 0, .int .i64 0, .bool false] := rfl
theorem madeE (n : Nat) : (madeCells (slVal Sl.zero).cells (n * 8)).toList = (List.replicate n Sl.zero).flatMap slCells := by
  apply List.ext_getElem?
  intro i
  by_cases h : i < n * 8
  · have hi : i = (i / 8) * 8 + i % 8 := by omega
    have h4 : i % 8 < 8 := by omega
    conv => rhs; rw [hi]
    rw [flatE_get _ _ _ (by rw [List.length_replicate]; omega) h4]
    have hz : slOf (List.replicate n Sl.zero) (i / 8) = Sl.zero := by
      rw [slOf_get (by rw [List.length_replicate]; omega), List.getElem_replicate]
    rw [hz, cells_zero_sl]
    unfold madeCells
    rw [Array.toList_map, List.getElem?_map, Array.toList_range, List.getElem?_range h]
    simp only [Option.map_some]
    have h5 : #[Value.int .i64 0, .int .i64 0, .int .i64 0, .int .i64 0, .int .i64 0, .int .i64 0, .int .i64 0, .bool false].size = 8 := rfl
    rw [h5]
    generalize i % 8 = j at h4
    match j, h4 with
    | 0, _ => rfl
    | 1, _ => rfl
    | 2, _ => rfl
    | 3, _ => rfl
    | 4, _ => rfl
    | 5, _ => rfl
    | 6, _ => rfl
    | 7, _ => rfl
  · rw [List.getElem?_eq_none (by rw [Array.length_toList, size_madeCells]; omega), List.getElem?_eq_none (by rw [flatE_len, List.length_replicate]; omega)]
section
variable {P : Program} {E T : Nat} (w : World) {ops : Array Oper} {rest : List Oper} {o : Oper} {a : Act} {Q : Exit → Act → World → Prop} {K : Act → World → Prop}
theorem make_sl (hg : o.guard = none) (l c : Operand) (hop : o.op = Op.makeSlice T l c) (base : Nat) (ht : P.underlying T = some (.slice E)) (hi : InfoSl P E)
    (kl kc : IntKind) (L C : Int) (n : Nat) (hl : a.eval l = .int kl L) (hc : a.eval c = .int kc C) (hL : L = (n : Int)) (hC : C = (n : Int)) (hm : n ≤ 4294967296) (hb : base ≤ w.heap.size)
    (hK : ∀ w', OwnE E w' base (.slice (some ⟨w.heap.size, 0, none⟩) n n) (List.replicate n Sl.zero) → Below base w w' → wpList P ops Q rest (a.put o.dst (.slice (some ⟨w.heap.size, 0, none⟩) n n)) w') :
    wpList P ops Q (o :: rest) a w := by
  obtain ⟨i0, hi, hz0, hz1, hz2⟩ := info_parts_sl hi
  refine wpList_make_full w hg l c T hop base E i0 (slVal Sl.zero) 8 ht hi hz0 hz1 kl kc L C n hl hc hL hC (by rw [hz2]; omega) (by unfold maxLen; omega) hb ?_
  intro w' h1 h2
  refine hK w' ?_ ((Below.refl _ _).grown h2 hb (fun k h => by cases h))
  unfold OwnE
  rw [List.length_replicate, ← madeE]
  exact h1
end
def itsE (E : Nat) (v : Value) (t : List Sl) : It := ⟨v, E, 8, t.length, t.flatMap slCells⟩
section
variable {w0 w w' : World} {L L1 L2 : List It} {E : Nat} {v : Value} {t : List Sl}
end
end

section
open Go.RowKit
structure Mv where
  id : Int
  n : List Nd
  no : Option Addr
  nc : Nat
  cs : List Mc
  mo : Option Addr
  mc : Nat
  e : List Sl
  eo : Option Addr
  ec : Nat
def Mv.zero : Mv := ⟨0, [], none, 0, [], none, 0, [], none, 0⟩
def Mv.me (v : Mv) : Me := ⟨v.id, v.n, mds v.cs, v.e⟩
def mvVal (v : Mv) : Value := .agg #[.int .i64 v.id, .slice v.no v.n.length v.nc, .slice v.mo v.cs.length v.mc, .slice v.eo v.e.length v.ec]
structure MvIn (w : World) (b : Nat) (v : Mv) : Prop where
  c0 : w.cell? ⟨b, 0, none⟩ = some (.int .i64 v.id)
  c1 : w.cell? ⟨b, 1, none⟩ = some (.slice v.no v.n.length v.nc)
  c2 : w.cell? ⟨b, 2, none⟩ = some (.slice v.mo v.cs.length v.mc)
  c3 : w.cell? ⟨b, 3, none⟩ = some (.slice v.eo v.e.length v.ec)
def MvAt (T : Nat) (w : World) (b : Nat) (v : Mv) : Prop := w.heap[b]? = some (.cells #[.int .i64 v.id, .slice v.no v.n.length v.nc, .slice v.mo v.cs.length v.mc, .slice v.eo v.e.length v.ec] T (0, 0))
structure RdMe (w : World) (v : Mv) : Prop where
  rn : RdN w v.no v.n.length v.n
  rm : RdM w v.mo v.cs.length v.cs
  re : RdE w v.eo v.e.length v.e
  nle : v.n.length ≤ v.nc
  ncap : v.nc ≤ 9223372036854775807
  mle : v.cs.length ≤ v.mc
  mcap : v.mc ≤ 9223372036854775807
  ele : v.e.length ≤ v.ec
  ecap : v.ec ≤ 9223372036854775807
  nl : v.n.length ≤ 1048576
  ml : v.cs.length ≤ 1048576
  el : v.e.length ≤ 1048576
  ns : smallN v.n
  ms : ∀ c ∈ v.cs, c.md.next.length ≤ 1048576
section
variable {w w' : World} {T b : Nat} {v : Mv}
theorem MvAt.in_ (h : MvAt T w b v) : MvIn w b v := ⟨cell_of_row w b 0 _ _ (0, 0) h, cell_of_row w b 1 _ _ (0, 0) h, cell_of_row w b 2 _ _ (0, 0) h, cell_of_row w b 3 _ _ (0, 0) h⟩
theorem MvAt.f (h : MvAt T w b v) (i : Nat) : w.frozen? ⟨b, i, none⟩ = false := frozen_of_row w b i _ _ h
theorem MvAt.lt (h : MvAt T w b v) : b < w.heap.size := (Array.getElem?_eq_some_iff.1 h).1
theorem MvAt.below {B : Nat} (h : MvAt T w b v) (hb : Below B w w') (hlt : b < B) : MvAt T w' b v := (hb.block b hlt).trans h
theorem MvAt.grown {g : Option Nat} (h : MvAt T w b v) (hg : w.grownBy w' g) (hne : some b ≠ g) : MvAt T w' b v := (hg.block b h.lt hne).trans h
theorem MvAt.new (w : World) : MvAt T (w.alloc (.cells #[.int .i64 v.id, .slice v.no v.n.length v.nc, .slice v.mo v.cs.length v.mc, .slice v.eo v.e.length v.ec] T)) w.heap.size v := heap_alloc_new w _
theorem MvAt.all (h : MvAt T w b v) : w.cell? ⟨b, 0, none⟩ = some (.int .i64 v.id) ∧ w.cell? ⟨b, 1, none⟩ = some (.slice v.no v.n.length v.nc) ∧ w.cell? ⟨b, 2, none⟩ = some (.slice v.mo v.cs.length v.mc) ∧ w.cell? ⟨b, 3, none⟩ = some (.slice v.eo v.e.length v.ec) :=
  ⟨h.in_.c0, h.in_.c1, h.in_.c2, h.in_.c3⟩
theorem RdMe.below (h : RdMe w v) (hb : Below w.heap.size w w') : RdMe w' v :=
  ⟨h.rn.below hb, h.rm.below hb, h.re.below hb, h.nle, h.ncap, h.mle, h.mcap, h.ele, h.ecap, h.nl, h.ml, h.el, h.ns, h.ms⟩
structure Bx (T : Nat) (w W : World) (b : Nat) (v : Mv) : Prop where
  at_ : MvAt T W b v
  rd : RdMe W v
  below : Below w.heap.size w W
theorem Bx.call {w W W' : World} (h : Bx T w W b v) (hb : Below W.heap.size W W') : Bx T w W' b v := ⟨h.at_.below hb h.at_.lt, h.rd.below hb, below_two h.below hb⟩
theorem Bx.start (h : RdMe w v) : Bx T w (w.alloc (.cells #[.int .i64 v.id, .slice v.no v.n.length v.nc, .slice v.mo v.cs.length v.mc, .slice v.eo v.e.length v.ec] T)) w.heap.size v :=
  ⟨MvAt.new w, h.below ((Below.refl _ _).alloc (Nat.le_refl _) _), (Below.refl _ _).alloc (Nat.le_refl _) _⟩
theorem Bx.drew (h : Bx T w w' b v) : Bx T w w'.drew b v := h.call (Below.drew (Below.refl _ _))
theorem RdE.from_ {b off n : Nat} {t : List Sl} (h : RdE w (some ⟨b, off, none⟩) n t) {c : Nat} (hc : c ≤ n) : RdE w (some ⟨b, off + c * 8, none⟩) (n - c) (t.drop c) := by
  refine ⟨by rw [List.length_drop, h.len], fun hn => ⟨b, off + c * 8, rfl, fun i hi => ?_⟩⟩
  obtain ⟨b', off', e, hx⟩ := h.here (by omega)
  cases e
  have := hx (c + i) (by omega)
  rw [Nat.add_mul, ← Nat.add_assoc] at this
  have e2 : slOf (t.drop c) i = slOf t (c + i) := by simp [slOf, List.getD]
  rw [e2]
  exact this
theorem RdE.part {b off n : Nat} {t : List Sl} (h : RdE w (some ⟨b, off, none⟩) n t) {c k : Nat} (hc : c + k ≤ n) : RdE w (some ⟨b, off + c * 8, none⟩) k ((t.drop c).take k) :=
  (h.from_ (c := c) (by omega)).take (by omega)
theorem RdM.take {ao : Option Addr} {n : Nat} {cs : List Mc} (h : RdM w ao n cs) {k : Nat} (hk : k ≤ n) : RdM w ao k (cs.take k) := by
  refine ⟨by rw [List.length_take, h.len]; omega, fun h0 => ?_, fun c hc => h.next c (List.mem_of_mem_take hc)⟩
  obtain ⟨b, off, e, hx⟩ := h.here (by omega)
  exact ⟨b, off, e, fun i hi => by rw [mcOf_take hi]; exact hx i (by omega)⟩
end
end

section
open Go.Joins Go.ChangeShapes Go.WideShapes Go.RowKit Go.Deep
def NdRow (w : World) (ao : Option Addr) (len cap : Nat) (t : List Nd) : Prop :=
  len ≤ cap ∧ cap ≤ maxLen ∧ RdN w ao len t ∧ ∀ i, i < len → (ndOf t i).name.size ≤ maxLen
theorem list_of {p : Nat → Nd → Prop} : ∀ n : Nat, (∀ i, i < n → ∃ x, p i x) → ∃ t : List Nd, t.length = n ∧ ∀ i, i < n → p i (ndOf t i)
  | 0, _ => ⟨[], rfl, fun i h => absurd h (by omega)⟩
  | n + 1, h => by
    obtain ⟨t, hl, ht⟩ := list_of n (fun i hi => h i (by omega))
    obtain ⟨x, hx⟩ := h n (by omega)
    refine ⟨t ++ [x], by rw [List.length_append, hl]; rfl, fun i hi => ?_⟩
    by_cases e : i = n
    · subst e
      have : ndOf (t ++ [x]) i = x := by simp [ndOf, List.getD, ← hl]
      rw [this]; exact hx
    · have : ndOf (t ++ [x]) i = ndOf t i := by simp [ndOf, List.getD, List.getElem?_append_left (show i < t.length by omega)]
      rw [this]; exact ht i (by omega)
theorem list_fourN {α : Type} {cs : List α} (h : cs.length = 4) : ∃ a b c d, cs = [a, b, c, d] := by
  match cs, h with
  | [a, b, c, d], _ => exact ⟨a, b, c, d, rfl⟩
section
variable {H : Type} {enc : TypeId × Value → H} {P : Program} {w : World} {base : Nat} {spare : Nat → Bool} {held : Bool}
theorem int_at_ {cs : List Value} {f : Field} {i F n : Nat} {y : DataW H × List MemPlace} (hF : P.underlying F = some (.int .i64)) (hC : P.cellsOf F = 1) (hf : f.type = F ∧ f.offset = i)
    (h : DataW.trod enc P w base spare held n f.type ((cs.drop f.offset).take (P.cellsOf f.type)) = some y) : ∃ x : Int, (cs.drop i).take 1 = [.int .i64 x] ∧ y.2 = [] ∧ (Lit.int .i64 x).wf = true := by
  obtain ⟨rfl, rfl⟩ := hf
  rw [hC] at h
  obtain ⟨x, h1, h2, h3⟩ := DataW.trod_int hF h
  exact ⟨x, h1, by rw [h2], h3⟩
theorem bool_at_ {cs : List Value} {f : Field} {i F n : Nat} {y : DataW H × List MemPlace} (hF : P.underlying F = some .bool) (hC : P.cellsOf F = 1) (hf : f.type = F ∧ f.offset = i)
    (h : DataW.trod enc P w base spare held n f.type ((cs.drop f.offset).take (P.cellsOf f.type)) = some y) : ∃ x : Bool, (cs.drop i).take 1 = [.bool x] ∧ y.2 = [] := by
  obtain ⟨rfl, rfl⟩ := hf
  rw [hC] at h
  obtain ⟨x, h1, h2⟩ := DataW.trod_bool hF h
  exact ⟨x, h1, by rw [h2]⟩
theorem string_at {cs : List Value} {f : Field} {i F n : Nat} {y : DataW H × List MemPlace} (hF : P.underlying F = some .string) (hC : P.cellsOf F = 1) (hf : f.type = F ∧ f.offset = i)
    (h : DataW.trod enc P w base spare held n f.type ((cs.drop f.offset).take (P.cellsOf f.type)) = some y) : ∃ x : ByteArray, (cs.drop i).take 1 = [.string x] ∧ x.size ≤ maxLen := by
  obtain ⟨rfl, rfl⟩ := hf
  rw [hC] at h
  obtain ⟨x, h1, -, h2⟩ := DataW.trod_string hF h
  exact ⟨x, h1, h2⟩
theorem open_nds {T e F S G : TypeId} {f0 f1 f2 f3 : Field} {fuel : Nat} {cs : List Value} {x : DataW H × List MemPlace} (hT : P.underlying T = some (.slice e)) (he : P.underlying e = some (.struct #[f0, f1, f2, f3]))
    (hF : P.underlying F = some (.int .i64)) (hS : P.underlying S = some .string) (hG : P.underlying G = some .bool) (hC : P.cellsOf e = 4) (hCF : P.cellsOf F = 1) (hCS : P.cellsOf S = 1) (hCG : P.cellsOf G = 1)
    (hfs : (f0.type = F ∧ f0.offset = 0) ∧ (f1.type = S ∧ f1.offset = 1) ∧ (f2.type = F ∧ f2.offset = 2) ∧ f3.type = G ∧ f3.offset = 3)
    (h : DataW.trod enc P w base spare held fuel T cs = some x) :
    ∃ (ao : Option Addr) (len cap : Nat) (t : List Nd), cs = [.slice ao len cap] ∧ NdRow w ao len cap t := by
  rcases open_slice hT h with ⟨rfl, -⟩ | ⟨a, len, cap, m, n, D, Pl, rfl, -, hl, hm, hmm, -, hi⟩
  · exact ⟨none, 0, 0, [], rfl, Nat.le_refl _, by unfold maxLen; omega, RdN.nil_, fun i h => absurd h (by omega)⟩
  · have hml : len ≤ m := by rw [hmm]; split <;> omega
    obtain ⟨h0, h1, h2, h3⟩ := hfs
    have hone : ∀ i, i < len → ∃ y : Nd, (w.cell? (a.add (i * 4)) = some (.int .i64 y.id) ∧ w.cell? ((a.add (i * 4)).add 1) = some (.string y.name) ∧ w.cell? ((a.add (i * 4)).add 2) = some (.int .i64 y.drift) ∧ w.cell? ((a.add (i * 4)).add 3) = some (.bool y.pas)) ∧ y.name.size ≤ maxLen := by
      intro i hil
      obtain ⟨cs', hc, ht⟩ := hi i (by omega)
      rw [hC] at hc
      obtain ⟨-, hcl, hat⟩ := World.cells?_some hc
      obtain ⟨c0, c1, c2, c3, rfl⟩ := list_fourN hcl
      obtain ⟨ys, n', -, -, -, hyl, hg⟩ := DataW.trod_struct he ht
      obtain ⟨y0, y1, y2, y3, rfl⟩ := list_fourN hyl
      obtain ⟨n0, e0, -, -⟩ := int_at_ (y := y0) hF hCF h0 (by simpa using hg 0 f0 rfl)
      obtain ⟨n1, e1, q1⟩ := string_at (y := y1) hS hCS h1 (by simpa using hg 1 f1 rfl)
      obtain ⟨n2, e2, -, -⟩ := int_at_ (y := y2) hF hCF h2 (by simpa using hg 2 f2 rfl)
      obtain ⟨n3, e3, -⟩ := bool_at_ (y := y3) hG hCG h3 (by simpa using hg 3 f3 rfl)
      simp only [List.drop_zero, List.drop_succ_cons, List.take_succ_cons, List.take_zero, List.cons.injEq, and_true] at e0 e1 e2 e3
      subst e0 e1 e2 e3
      have z0 := hat 0 (by omega)
      rw [show (a.add (i * 4)).add 0 = a.add (i * 4) from by unfold Addr.add; split <;> simp_all] at z0
      exact ⟨⟨n0, n1, n2, n3⟩, ⟨z0, hat 1 (by omega), hat 2 (by omega), hat 3 (by omega)⟩, q1⟩
    obtain ⟨t, htl, ht⟩ := list_of len hone
    refine ⟨some a, len, cap, t, rfl, hl, hm, ⟨htl, fun h0 => ?_⟩, fun i h => (ht i h).2⟩
    obtain ⟨b, off, spot⟩ := a
    have hspot : spot = none := by simpa [Addr.add] using World.cell?_spot (ht 0 h0).1.1
    subst hspot
    refine ⟨b, off, rfl, fun i hil => ?_⟩
    obtain ⟨⟨z0, z1, z2, z3⟩, -⟩ := ht i hil
    simp only [Addr.add_lit] at z0 z1 z2 z3
    exact ⟨z0, z1, z2, z3⟩
end
end

section
open Go.Joins Go.ChangeShapes Go.WideShapes Go.RowKit Go.Deep
def MdRow (w : World) (ao : Option Addr) (len cap : Nat) (cs : List Mc) : Prop := len ≤ cap ∧ cap ≤ maxLen ∧ RdM w ao len cs
theorem list_ofM {p : Nat → Mc → Prop} : ∀ n : Nat, (∀ i, i < n → ∃ x, p i x) → ∃ t : List Mc, t.length = n ∧ ∀ i, i < n → p i (mcOf t i)
  | 0, _ => ⟨[], rfl, fun i h => absurd h (by omega)⟩
  | n + 1, h => by
    obtain ⟨t, hl, ht⟩ := list_ofM n (fun i hi => h i (by omega))
    obtain ⟨x, hx⟩ := h n (by omega)
    refine ⟨t ++ [x], by rw [List.length_append, hl]; rfl, fun i hi => ?_⟩
    by_cases e : i = n
    · subst e
      have : mcOf (t ++ [x]) i = x := by simp [mcOf, List.getD, ← hl]
      rw [this]; exact hx
    · have : mcOf (t ++ [x]) i = mcOf t i := by simp [mcOf, List.getD, List.getElem?_append_left (show i < t.length by omega)]
      rw [this]; exact ht i (by omega)
theorem list_threeM {α : Type} {cs : List α} (h : cs.length = 3) : ∃ a b c, cs = [a, b, c] := by
  match cs, h with
  | [a, b, c], _ => exact ⟨a, b, c, rfl⟩
section
variable {H : Type} {enc : TypeId × Value → H} {P : Program} {w : World} {base : Nat} {spare : Nat → Bool} {held : Bool}
theorem slice_at {cs : List Value} {f : Field} {i F L n : Nat} {y : DataW H × List MemPlace} (hL : P.underlying L = some (.slice F)) (hF : P.underlying F = some (.int .i64)) (hCL : P.cellsOf L = 1) (hC : P.cellsOf F = 1) (hf : f.type = L ∧ f.offset = i)
    (h : DataW.trod enc P w base spare held n f.type ((cs.drop f.offset).take (P.cellsOf f.type)) = some y) : ∃ (ao : Option Addr) (cap : Nat) (xs : List Int), (cs.drop i).take 1 = [.slice ao xs.length cap] ∧ Rd w ao xs.length xs ∧ xs.length ≤ cap ∧ cap ≤ maxLen := by
  obtain ⟨rfl, rfl⟩ := hf
  rw [hCL] at h
  rcases open_ints hL hF hC h with ⟨h1, -⟩ | ⟨a, len, cap, zs, h1, -, hl, hm, hz, -, hc, -⟩
  · exact ⟨none, 0, [], h1, Rd.nil_, Nat.le_refl _, by unfold maxLen; omega⟩
  · have hlz : len ≤ zs.length := by rw [hz]; split <;> omega
    have htl : (zs.take len).length = len := by rw [List.length_take]; omega
    refine ⟨some a, cap, zs.take len, by rw [htl]; exact h1, ⟨rfl, fun h0 => ?_⟩, by omega, hm⟩
    obtain ⟨b, off, spot⟩ := a
    have hspot : spot = none := by simpa [Addr.add] using World.cell?_spot (hc 0 (by omega))
    subst hspot
    refine ⟨b, off, rfl, fun i hi => ?_⟩
    have := hc i (by omega)
    rw [Addr.add_lit] at this
    rw [this]
    simp [List.getD, show i < len from by omega]
theorem open_mds {T e F L : TypeId} {f0 f1 f2 : Field} {fuel : Nat} {cs : List Value} {x : DataW H × List MemPlace} (hT : P.underlying T = some (.slice e)) (he : P.underlying e = some (.struct #[f0, f1, f2]))
    (hF : P.underlying F = some (.int .i64)) (hL : P.underlying L = some (.slice F)) (hC : P.cellsOf e = 3) (hCF : P.cellsOf F = 1) (hCL : P.cellsOf L = 1)
    (hfs : (f0.type = F ∧ f0.offset = 0) ∧ (f1.type = F ∧ f1.offset = 1) ∧ f2.type = L ∧ f2.offset = 2)
    (h : DataW.trod enc P w base spare held fuel T cs = some x) :
    ∃ (ao : Option Addr) (len cap : Nat) (t : List Mc), cs = [.slice ao len cap] ∧ MdRow w ao len cap t := by
  rcases open_slice hT h with ⟨rfl, -⟩ | ⟨a, len, cap, m, n, D, Pl, rfl, -, hl, hm, hmm, -, hi⟩
  · exact ⟨none, 0, 0, [], rfl, Nat.le_refl _, by unfold maxLen; omega, RdM.nil_⟩
  · have hml : len ≤ m := by rw [hmm]; split <;> omega
    obtain ⟨h0, h1, h2⟩ := hfs
    have hone : ∀ i, i < len → ∃ y : Mc, (w.cell? (a.add (i * 3)) = some (.int .i64 y.md.rounds) ∧ w.cell? ((a.add (i * 3)).add 1) = some (.int .i64 y.md.slots) ∧ w.cell? ((a.add (i * 3)).add 2) = some (.slice y.ao y.md.next.length y.cap)) ∧ McRd w y := by
      intro i hil
      obtain ⟨cs', hc, ht⟩ := hi i (by omega)
      rw [hC] at hc
      obtain ⟨-, hcl, hat⟩ := World.cells?_some hc
      obtain ⟨c0, c1, c2, rfl⟩ := list_threeM hcl
      obtain ⟨ys, n', -, -, -, hyl, hg⟩ := DataW.trod_struct he ht
      obtain ⟨y0, y1, y2, rfl⟩ := list_threeM hyl
      obtain ⟨n0, e0, -, -⟩ := int_at_ (y := y0) hF hCF h0 (by simpa using hg 0 f0 rfl)
      obtain ⟨n1, e1, -, -⟩ := int_at_ (y := y1) hF hCF h1 (by simpa using hg 1 f1 rfl)
      obtain ⟨bo, bc, xs, e2, hr, hle, hmx⟩ := slice_at (y := y2) hL hF hCL hCF h2 (by simpa using hg 2 f2 rfl)
      simp only [List.drop_zero, List.drop_succ_cons, List.take_succ_cons, List.take_zero, List.cons.injEq, and_true] at e0 e1 e2
      subst e0 e1 e2
      have z0 := hat 0 (by omega)
      rw [show (a.add (i * 3)).add 0 = a.add (i * 3) from by unfold Addr.add; split <;> simp_all] at z0
      exact ⟨⟨⟨n0, n1, xs⟩, bo, bc⟩, ⟨z0, hat 1 (by omega), hat 2 (by omega)⟩, ⟨hr, hle, by unfold maxLen at hmx; dsimp only; omega⟩⟩
    obtain ⟨t, htl, ht⟩ := list_ofM len hone
    refine ⟨some a, len, cap, t, rfl, hl, hm, ⟨htl, fun h0 => ?_, fun c hc => ?_⟩⟩
    · obtain ⟨b, off, spot⟩ := a
      have hspot : spot = none := by simpa [Addr.add] using World.cell?_spot (ht 0 h0).1.1
      subst hspot
      refine ⟨b, off, rfl, fun i hil => ?_⟩
      obtain ⟨⟨z0, z1, z2⟩, -⟩ := ht i hil
      simp only [Addr.add_lit] at z0 z1 z2
      exact ⟨z0, z1, z2⟩
    · obtain ⟨i, hi2, rfl⟩ := List.getElem_of_mem hc
      have := (ht i (by omega)).2
      rwa [mcOf_get hi2] at this
end
end

section
section
open Go.RowKit
end
section
open Go.Joins Go.ChangeShapes Go.WideShapes Go.RowKit
section
variable {H : Type} {enc : TypeId × Value → H} {P : Program} {w : World} {base : Nat} {spare : Nat → Bool} {held : Bool}
theorem bool_at {cs : List Value} {f : Field} {i F n : Nat} {y : DataW H × List MemPlace} (hF : P.underlying F = some .bool) (hC : P.cellsOf F = 1) (hf : f.type = F ∧ f.offset = i)
    (h : DataW.trod enc P w base spare held n f.type ((cs.drop f.offset).take (P.cellsOf f.type)) = some y) : ∃ x : Bool, (cs.drop i).take 1 = [.bool x] ∧ y.2 = [] := by
  obtain ⟨rfl, rfl⟩ := hf
  rw [hC] at h
  obtain ⟨x, h1, h2⟩ := DataW.trod_bool hF h
  exact ⟨x, h1, by rw [h2]⟩
end
end
end

section
open Go.Joins Go.ChangeShapes Go.WideShapes Go.RowKit Go.Deep
def slWf (y : Sl) : Prop := (Lit.int .i64 y.mode).wf = true ∧ (Lit.int .i64 y.round).wf = true ∧ (Lit.int .i64 y.slot).wf = true ∧ (Lit.int .i64 y.desc.node).wf = true ∧ (Lit.int .i64 y.desc.kind).wf = true ∧ (Lit.int .i64 y.desc.size).wf = true ∧ (Lit.int .i64 y.desc.dur).wf = true
def SlRow (w : World) (ao : Option Addr) (len cap : Nat) (t : List Sl) : Prop :=
  len ≤ cap ∧ cap ≤ maxLen ∧ RdE w ao len t ∧ ∀ i, i < len → slWf (slOf t i)
theorem list_ofS {p : Nat → Sl → Prop} : ∀ n : Nat, (∀ i, i < n → ∃ x, p i x) → ∃ t : List Sl, t.length = n ∧ ∀ i, i < n → p i (slOf t i)
  | 0, _ => ⟨[], rfl, fun i h => absurd h (by omega)⟩
  | n + 1, h => by
    obtain ⟨t, hl, ht⟩ := list_ofS n (fun i hi => h i (by omega))
    obtain ⟨x, hx⟩ := h n (by omega)
    refine ⟨t ++ [x], by rw [List.length_append, hl]; rfl, fun i hi => ?_⟩
    by_cases e : i = n
    · subst e
      have : slOf (t ++ [x]) i = x := by simp [slOf, List.getD, ← hl]
      rw [this]; exact hx
    · have : slOf (t ++ [x]) i = slOf t i := by simp [slOf, List.getD, List.getElem?_append_left (show i < t.length by omega)]
      rw [this]; exact ht i (by omega)
theorem list_fourS {α : Type} {cs : List α} (h : cs.length = 4) : ∃ a b c d, cs = [a, b, c, d] := by
  match cs, h with
  | [a, b, c, d], _ => exact ⟨a, b, c, d, rfl⟩
theorem list_eightS {α : Type} {cs : List α} (h : cs.length = 8) : ∃ a b c d e f g i, cs = [a, b, c, d, e, f, g, i] := by
  match cs, h with
  | [a, b, c, d, e, f, g, i], _ => exact ⟨a, b, c, d, e, f, g, i, rfl⟩
section
variable {H : Type} {enc : TypeId × Value → H} {P : Program} {w : World} {base : Nat} {spare : Nat → Bool} {held : Bool}
theorem slot_cells {e F G S : TypeId} {f0 f1 f2 f3 g0 g1 g2 g3 g4 : Field} {n : Nat} {cs : List Value} {x : DataW H × List MemPlace} (he : P.underlying e = some (.struct #[f0, f1, f2, f3])) (hS : P.underlying S = some (.struct #[g0, g1, g2, g3, g4])) (hF : P.underlying F = some (.int .i64)) (hG : P.underlying G = some .bool) (hCF : P.cellsOf F = 1) (hCG : P.cellsOf G = 1) (hCS : P.cellsOf S = 5)
    (hfs : (f0.type = F ∧ f0.offset = 0) ∧ (f1.type = F ∧ f1.offset = 1) ∧ (f2.type = F ∧ f2.offset = 2) ∧ f3.type = S ∧ f3.offset = 3)
    (hgs : (g0.type = F ∧ g0.offset = 0) ∧ (g1.type = F ∧ g1.offset = 1) ∧ (g2.type = F ∧ g2.offset = 2) ∧ (g3.type = F ∧ g3.offset = 3) ∧ g4.type = G ∧ g4.offset = 4)
    (hl : cs.length = 8) (h : DataW.trod enc P w base spare held n e cs = some x) : ∃ y : Sl, cs = slCells y ∧ slWf y ∧ x.2 = [] := by
  obtain ⟨c0, c1, c2, c3, c4, c5, c6, c7, rfl⟩ := list_eightS hl
  obtain ⟨xs, n', -, hx, -, hlen, hg⟩ := DataW.trod_struct he h
  obtain ⟨y0, y1, y2, y3, rfl⟩ := list_fourS hlen
  obtain ⟨h0, h1, h2, h3t, h3o⟩ := hfs
  obtain ⟨k0, k1, k2, k3, k4⟩ := hgs
  obtain ⟨n0, e0, p0, w0⟩ := int_at (y := y0) hF hCF h0 (by simpa using hg 0 f0 rfl)
  obtain ⟨n1, e1, p1, w1⟩ := int_at (y := y1) hF hCF h1 (by simpa using hg 1 f1 rfl)
  obtain ⟨n2, e2, p2, w2⟩ := int_at (y := y2) hF hCF h2 (by simpa using hg 2 f2 rfl)
  have hs3 := hg 3 f3 rfl
  rw [h3t, h3o, hCS] at hs3
  obtain ⟨xs2, m, -, hx2, -, hlen2, hg2⟩ := DataW.trod_struct hS hs3
  obtain ⟨z0, z1, z2, z3, z4, rfl⟩ := list_five hlen2
  obtain ⟨n3, e3, p3, w3⟩ := int_at (y := z0) hF hCF k0 (by simpa using hg2 0 g0 rfl)
  obtain ⟨n4, e4, p4, w4⟩ := int_at (y := z1) hF hCF k1 (by simpa using hg2 1 g1 rfl)
  obtain ⟨n5, e5, p5, w5⟩ := int_at (y := z2) hF hCF k2 (by simpa using hg2 2 g2 rfl)
  obtain ⟨n6, e6, p6, w6⟩ := int_at (y := z3) hF hCF k3 (by simpa using hg2 3 g3 rfl)
  obtain ⟨n7, e7, p7⟩ := bool_at (y := z4) hG hCG k4 (by simpa using hg2 4 g4 rfl)
  simp only [List.drop_zero, List.drop_succ_cons, List.take_succ_cons, List.take_zero, List.cons.injEq, and_true] at e0 e1 e2 e3 e4 e5 e6 e7
  subst e0 e1 e2 e3 e4 e5 e6 e7
  have h3 := congrArg Prod.snd hx2
  have h4 := congrArg Prod.snd hx
  simp only at h3 h4
  exact ⟨⟨n0, n1, n2, ⟨n3, n4, n5, n6, n7⟩⟩, rfl, ⟨w0, w1, w2, w3, w4, w5, w6⟩, by simp_all⟩
theorem open_sls {T e F G S : TypeId} {f0 f1 f2 f3 g0 g1 g2 g3 g4 : Field} {fuel : Nat} {cs : List Value} {x : DataW H × List MemPlace} (hT : P.underlying T = some (.slice e)) (he : P.underlying e = some (.struct #[f0, f1, f2, f3])) (hS : P.underlying S = some (.struct #[g0, g1, g2, g3, g4])) (hF : P.underlying F = some (.int .i64)) (hG : P.underlying G = some .bool) (hC : P.cellsOf e = 8) (hCF : P.cellsOf F = 1) (hCG : P.cellsOf G = 1) (hCS : P.cellsOf S = 5)
    (hfs : (f0.type = F ∧ f0.offset = 0) ∧ (f1.type = F ∧ f1.offset = 1) ∧ (f2.type = F ∧ f2.offset = 2) ∧ f3.type = S ∧ f3.offset = 3)
    (hgs : (g0.type = F ∧ g0.offset = 0) ∧ (g1.type = F ∧ g1.offset = 1) ∧ (g2.type = F ∧ g2.offset = 2) ∧ (g3.type = F ∧ g3.offset = 3) ∧ g4.type = G ∧ g4.offset = 4)
    (h : DataW.trod enc P w base spare held fuel T cs = some x) :
    ∃ (ao : Option Addr) (len cap : Nat) (t : List Sl), cs = [.slice ao len cap] ∧ SlRow w ao len cap t := by
  rcases open_slice hT h with ⟨rfl, -⟩ | ⟨a, len, cap, m, n, D, Pl, rfl, -, hl, hm, hmm, -, hi⟩
  · exact ⟨none, 0, 0, [], rfl, Nat.le_refl _, by unfold maxLen; omega, RdE.nil_, fun i h => absurd h (by omega)⟩
  · have hml : len ≤ m := by rw [hmm]; split <;> omega
    have hone : ∀ i, i < len → ∃ y : Sl, (∀ j, j < 8 → w.cell? ((a.add (i * 8)).add j) = (slCells y)[j]?) ∧ slWf y := by
      intro i hil
      obtain ⟨cs', hc, ht⟩ := hi i (by omega)
      rw [hC] at hc
      obtain ⟨-, hcl, hat⟩ := World.cells?_some hc
      obtain ⟨y, rfl, hw, -⟩ := slot_cells he hS hF hG hCF hCG hCS hfs hgs hcl ht
      refine ⟨y, fun j hj => ?_, hw⟩
      have := hat j hj
      rw [this, List.getElem?_eq_getElem (by simp [slCells]; omega)]
    obtain ⟨t, htl, ht⟩ := list_ofS len hone
    refine ⟨some a, len, cap, t, rfl, hl, hm, ⟨htl, fun h0 => ?_⟩, fun i h => (ht i h).2⟩
    obtain ⟨b, off, spot⟩ := a
    have h00 : w.cell? (⟨b, off, spot⟩ : Addr) = (slCells (slOf t 0))[0]? := by simpa [Addr.add] using (ht 0 h0).1 0 (by omega)
    have hspot : spot = none := by
      have h3 : (slCells (slOf t 0))[0]? = some (.int .i64 (slOf t 0).mode) := rfl
      rw [h3] at h00
      exact World.cell?_spot h00
    subst hspot
    refine ⟨b, off, rfl, fun i hil => ?_⟩
    have z := (ht i hil).1
    simp only [Addr.add_lit] at z
    exact ⟨z 0 (by omega), z 1 (by omega), z 2 (by omega), z 3 (by omega), z 4 (by omega), z 5 (by omega), z 6 (by omega), z 7 (by omega)⟩
end
end

section
open Go.Joins Go.ChangeShapes Go.WideShapes Go.RowKit Go.Deep
structure MeRow (w : World) (v : Mv) : Prop where
  id : (Lit.int .i64 v.id).wf = true
  n : NdRow w v.no v.n.length v.nc v.n
  m : MdRow w v.mo v.cs.length v.mc v.cs
  e : SlRow w v.eo v.e.length v.ec v.e
section
variable {H : Type} {enc : TypeId × Value → H} {P : Program} {w : World} {base : Nat} {spare : Nat → Bool} {held : Bool}
theorem open_me {r : Reach} {b0 : Nat} {t F N M S : TypeId} {f0 f1 f2 f3 : Field} {v : Value} {d : DataW H} {p : List MemPlace} (hs : P.underlying t = some (.struct #[f0, f1, f2, f3])) (hF : P.underlying F = some (.int .i64)) (hC : P.cellsOf t = 4) (hCF : P.cellsOf F = 1) (hCN : P.cellsOf N = 1) (hCM : P.cellsOf M = 1) (hCS : P.cellsOf S = 1)
    (hfs : (f0.type = F ∧ f0.offset = 0) ∧ (f1.type = N ∧ f1.offset = 1) ∧ (f2.type = M ∧ f2.offset = 2) ∧ f3.type = S ∧ f3.offset = 3)
    (hN : ∀ {fuel : Nat} {cs : List Value} {x : DataW H × List MemPlace}, DataW.trod enc P w base spare held fuel N cs = some x → ∃ (ao : Option Addr) (len cap : Nat) (t : List Nd), cs = [.slice ao len cap] ∧ NdRow w ao len cap t)
    (hM : ∀ {fuel : Nat} {cs : List Value} {x : DataW H × List MemPlace}, DataW.trod enc P w base spare held fuel M cs = some x → ∃ (ao : Option Addr) (len cap : Nat) (t : List Mc), cs = [.slice ao len cap] ∧ MdRow w ao len cap t)
    (hS : ∀ {fuel : Nat} {cs : List Value} {x : DataW H × List MemPlace}, DataW.trod enc P w base spare held fuel S cs = some x → ∃ (ao : Option Addr) (len cap : Nat) (t : List Sl), cs = [.slice ao len cap] ∧ SlRow w ao len cap t)
    (hv : Value.okWide P w r b0 t v) (h : DataW.Trod enc P w base spare held t v d p) : ∃ y : Mv, v = mvVal y ∧ MeRow w y := by
  obtain ⟨⟨cs⟩, rfl, hsz⟩ := okWide_struct hs hv
  obtain ⟨c0, c1, c2, c3, rfl⟩ := list_fourN (hsz.trans hC)
  obtain ⟨fuel, hf⟩ := h
  obtain ⟨xs, n, -, hx, -, hlen, hg⟩ := DataW.trod_struct hs hf
  obtain ⟨y0, y1, y2, y3, rfl⟩ := list_fourN hlen
  obtain ⟨h0, ⟨h1t, h1o⟩, ⟨h2t, h2o⟩, h3t, h3o⟩ := hfs
  obtain ⟨n0, e0, p0, w0⟩ := int_at_ (y := y0) hF hCF h0 (by simpa [Value.cells] using hg 0 f0 rfl)
  have g1 := hg 1 f1 rfl
  have g2 := hg 2 f2 rfl
  have g3 := hg 3 f3 rfl
  rw [h1t, h1o, hCN] at g1
  rw [h2t, h2o, hCM] at g2
  rw [h3t, h3o, hCS] at g3
  obtain ⟨na, nl, nc, nt, e1, w1⟩ := hN g1
  obtain ⟨ma, ml, mc, mt, e2, w2⟩ := hM g2
  obtain ⟨sa, sl, sc, st, e3, w3⟩ := hS g3
  simp [Value.cells] at e0 e1 e2 e3
  subst e0 e1 e2 e3
  have l1 := w1.2.2.1.len
  have l2 := w2.2.2.len
  have l3 := w3.2.2.1.len
  subst l1 l2 l3
  exact ⟨⟨n0, nt, na, nc, mt, ma, mc, st, sa, sc⟩, rfl, w0, w1, w2, w3⟩
end
end

section
section
open Go.RowKit
end
section
open Go.RowKit
section
variable (n a z u : Int) (c : Bool) (w : World)
end
section
variable {T : Nat} (b : Nat) (n a z u : Int) (c : Bool) (x : Int) (w : World)
end
end
section
open Go.RowKit
end
section
open Go.RowKit
def setDesc (w : World) (b : Nat) (n a z u : Int) (c : Bool) : World := ((((w.setCell ⟨b, 0, none⟩ (.int .i64 n)).setCell ⟨b, 1, none⟩ (.int .i64 a)).setCell ⟨b, 2, none⟩ (.int .i64 z)).setCell ⟨b, 3, none⟩ (.int .i64 u)).setCell ⟨b, 4, none⟩ (.bool c)
theorem DescAt.five {T b : Nat} {w : World} {n a z u : Int} {c : Bool} (h : DescAt T w b n a z u c) (n' a' z' u' : Int) (c' : Bool) : DescAt T (setDesc w b n' a' z' u' c') b n' a' z' u' c' := ((((h.set0 n').set1 a').set2 z').set3 u').set4 c'
theorem below_desc {B b : Nat} {w : World} (hb : B ≤ b) (n a z u : Int) (c : Bool) : Below B w (setDesc w b n a z u c) := ((((((Below.refl _ _).setCell hb _).setCell hb _).setCell hb _).setCell hb _).setCell hb _)
end
section
open Go.RowKit
end
end

section
open Go.RowKit
def cmpI (a b : Int) : Int := if a < b then -1 else if b < a then 1 else 0
theorem notNaN_any (a : Int) (w : World) : Calls Tryz.prog 269 #[.int .i64 a] w fun e w' => e = .returned (.bool false) ∧ w = w' := by
  go_enter Tryz.func269, Tryz.ntmps269
  go_wp2
  go_ret
  exact ⟨by simp, rfl⟩
theorem compare_any (a b : Int) (w : World) : Calls Tryz.prog 261 #[.int .i64 a, .int .i64 b] w fun e w' => e = .returned (.int .i64 (cmpI a b)) ∧ w = w' := by
  unfold cmpI
  by_cases h1 : a < b
  · rw [if_pos h1]
    go_enter Tryz.func261, Tryz.ntmps261
    go_wp2_with (go_at_call 269; refine (notNaN_any _ _).mono ?_; rintro e w1 ⟨rfl, rfl⟩)
    go_ret
    exact ⟨rfl, rfl⟩
  · rw [if_neg h1]
    by_cases h2 : b < a
    · rw [if_pos h2]
      go_enter Tryz.func261, Tryz.ntmps261
      go_wp2_with (go_at_call 269; refine (notNaN_any _ _).mono ?_; rintro e w1 ⟨rfl, rfl⟩)
      go_ret
      exact ⟨rfl, rfl⟩
    · rw [if_neg h2]
      go_enter Tryz.func261, Tryz.ntmps261
      go_wp2_with (go_at_call 269; refine (notNaN_any _ _).mono ?_; rintro e w1 ⟨rfl, rfl⟩)
      go_ret
      exact ⟨rfl, rfl⟩
end

section
structure Ss where
  t : Int
  m : Int
  r : Int
  s : Int
  k : Int
def Ss.zero : Ss := ⟨0, 0, 0, 0, 0⟩
def isSs (x : Ss) : Bool := isState x.t x.m x.r x.s x.k
def belongsB (m : Me) (x : Ss) : Bool :=
  isSs x && (isMode m.modes x.m && (decide (x.r < (mdOf m.modes x.m.toNat).rounds) && (decide (x.s < (mdOf m.modes x.m.toNat).slots) && decide (x.k.toNat &&& actv m = x.k.toNat))))
def codeLu (m : Me) (x : Ss) : Int := if isMedl m = false then 1 else if belongsB m x = false then 2 else 0
def codeLm (m : Me) (k : Int) : Int := if isMedl m = false then 1 else if isMode m.modes k = false then 2 else 0
def cyc (m : Me) (x : Ss) : List Sl := inMode m.slots x.m.toNat
def placeOf (m : Me) (x : Ss) : Nat := x.r.toNat * (mdOf m.modes x.m.toNat).slots.toNat + x.s.toNat
def descOf (m : Me) (x : Ss) : Ds := (slOf (cyc m x) (placeOf m x)).desc
def nextOf (m : Me) (x : Ss) : Ss :=
  ⟨(x.t + (descOf m x).dur) % 65536, x.m, (stepRS (mdOf m.modes x.m.toNat).slots (mdOf m.modes x.m.toNat).rounds x.r x.s).1, (stepRS (mdOf m.modes x.m.toNat).slots (mdOf m.modes x.m.toNat).rounds x.r x.s).2, x.k⟩
def startOf (m : Me) (x : Ss) : Int := dursum ((cyc m x).take (placeOf m x))
def placeAt : List Sl → Int → Nat
  | [], _ => 0
  | x :: r, t => if t < x.desc.dur then 0 else placeAt r (t - x.desc.dur) + 1
def slotAt (m : Me) (k t : Int) : Int × Int × Int :=
  if codeLm m k = 0 then
    (if t < 0 ∨ dursum (inMode m.slots k.toNat) ≤ t then (0, 0, 4) else (((placeAt (inMode m.slots k.toNat) t / (mdOf m.modes k.toNat).slots.toNat : Nat) : Int), ((placeAt (inMode m.slots k.toNat) t % (mdOf m.modes k.toNat).slots.toNat : Nat) : Int), 0))
  else (0, 0, codeLm m k)
def iterL (m : Me) (x : Ss) : Nat → Ss
  | 0 => x
  | n + 1 => nextOf m (iterL m x n)
def statesTo (m : Me) (x : Ss) (n : Nat) : List Ss := (List.range n).map fun i => iterL m x i
def statesOfCycle (m : Me) (x : Ss) : List Ss × Int :=
  if codeLu m x = 0 then (statesTo m x ((mdOf m.modes x.m.toNat).rounds.toNat * (mdOf m.modes x.m.toNat).slots.toNat), 0) else ([], codeLu m x)
theorem nat_place {r R s S : Nat} (hr : r < R) (hs : s < S) : r * S + s < R * S := by
  have := Nat.mul_le_mul_right S (show r + 1 ≤ R from hr)
  rw [Nat.succ_mul] at this
  omega
theorem place_lt {a b r s S : Nat} (hb : b < S) (hs : s < S) : a * S + b < r * S + s ↔ a < r ∨ (a = r ∧ b < s) := by
  rcases Nat.lt_trichotomy a r with h | rfl | h
  · have := Nat.mul_le_mul_right S (show a + 1 ≤ r from h)
    rw [Nat.succ_mul] at this
    constructor
    · intro _; exact .inl h
    · intro _; omega
  · constructor
    · intro h; exact .inr ⟨rfl, by omega⟩
    · rintro (h | ⟨-, h⟩)
      · omega
      · omega
  · have := Nat.mul_le_mul_right S (show r + 1 ≤ a from h)
    rw [Nat.succ_mul] at this
    constructor
    · intro h2; omega
    · rintro (h2 | ⟨h2, -⟩)
      · omega
      · omega
theorem place_same {a b r s S : Nat} (hb : b < S) (hs : s < S) (h : a * S + b = r * S + s) : a = r ∧ b = s := by
  have h1 := mt (place_lt (a := a) (r := r) hb hs).2 (by omega)
  have h2 := mt (place_lt (a := r) (r := a) hs hb).2 (by omega)
  omega
theorem place_div {a b S : Nat} (hb : b < S) : (a * S + b) / S = a ∧ (a * S + b) % S = b := by
  constructor
  · rw [Nat.add_comm, Nat.add_mul_div_right _ _ (by omega), Nat.div_eq_of_lt hb]; omega
  · rw [Nat.add_comm, Nat.add_mul_mod_self_right, Nat.mod_eq_of_lt hb]
section
variable {m : Me} (W : Well m)
include W
theorem cyc_at {k r s : Nat} (hk : k < m.modes.length) (hr : r < (mdOf m.modes k).rounds.toNat) (hs : s < (mdOf m.modes k).slots.toNat) :
    slOf (inMode m.slots k) (r * (mdOf m.modes k).slots.toNat + s) = slOf (inRound m.slots k r) s := by
  rw [(round_parts W.r4 W.r3 W.r5 hk hr).1]
  simp [slOf, List.getD, hs]
theorem cyc_key {k r s : Nat} (hk : k < m.modes.length) (hr : r < (mdOf m.modes k).rounds.toNat) (hs : s < (mdOf m.modes k).slots.toNat) :
    slOf (inMode m.slots k) (r * (mdOf m.modes k).slots.toNat + s) ∈ m.slots ∧ (slOf (inMode m.slots k) (r * (mdOf m.modes k).slots.toNat + s)).mode = (k : Int) ∧ (slOf (inMode m.slots k) (r * (mdOf m.modes k).slots.toNat + s)).round = (r : Int) ∧ (slOf (inMode m.slots k) (r * (mdOf m.modes k).slots.toNat + s)).slot = (s : Int) := by
  rw [cyc_at W hk hr hs]
  exact round_at W.r4 W.r3 W.r5 hk hr hs
theorem cyc_dur {k : Nat} : ∀ x ∈ inMode m.slots k, 1 ≤ x.desc.dur ∧ x.desc.dur ≤ 1000 := fun _ hx => sl_dur W.r4 (inMode_sub hx)
theorem cyc_len {k : Nat} (hk : k < m.modes.length) : (inMode m.slots k).length = (mdOf m.modes k).rounds.toNat * (mdOf m.modes k).slots.toNat := mode_len W.r4 W.r3 W.r5 hk
end
theorem dur_mono {L : List Sl} (h : ∀ x ∈ L, 1 ≤ x.desc.dur ∧ x.desc.dur ≤ 1000) {p q : Nat} (hpq : p ≤ q) : dursum (L.take p) ≤ dursum (L.take q) := by
  obtain ⟨d, rfl⟩ : ∃ d, q = p + d := ⟨q - p, by omega⟩
  rw [List.take_add, dursum_app]
  have := (dursum_in (t := (L.drop p).take d) fun x hx => h x (List.mem_of_mem_drop (List.mem_of_mem_take hx))).1
  omega
theorem dur_all {L : List Sl} (h : ∀ x ∈ L, 1 ≤ x.desc.dur ∧ x.desc.dur ≤ 1000) (p : Nat) : 0 ≤ dursum (L.take p) ∧ dursum (L.take p) ≤ dursum L := by
  have h1 := dur_mono h (Nat.zero_le p)
  have h2 := dur_mono h (show p ≤ p + L.length by omega)
  rw [List.take_of_length_le (l := L) (i := p + L.length) (by omega)] at h2
  simp only [List.take_zero, dursum] at h1
  exact ⟨h1, h2⟩
theorem placeAt_in : ∀ {L : List Sl} {t : Int}, 0 ≤ t → t < dursum L → placeAt L t < L.length ∧ dursum (L.take (placeAt L t)) ≤ t ∧ t < dursum (L.take (placeAt L t + 1))
  | [], t, h0, h1 => by simp [dursum] at h1; omega
  | x :: r, t, h0, h1 => by
    rw [placeAt]
    split
    · rename_i h
      simp [dursum]
      omega
    · rename_i h
      simp only [dursum] at h1
      have := placeAt_in (L := r) (t := t - x.desc.dur) (by omega) (by omega)
      simp only [List.length_cons, List.take_succ_cons, dursum]
      omega
theorem place_one {L : List Sl} (h : ∀ x ∈ L, 1 ≤ x.desc.dur ∧ x.desc.dur ≤ 1000) {t : Int} {p q : Nat} (h1 : dursum (L.take p) ≤ t) (h2 : t < dursum (L.take (p + 1))) (h3 : dursum (L.take q) ≤ t) (h4 : t < dursum (L.take (q + 1))) : p = q := by
  rcases Nat.lt_trichotomy p q with h5 | h5 | h5
  · have := dur_mono h (show p + 1 ≤ q by omega); omega
  · exact h5
  · have := dur_mono h (show q + 1 ≤ p by omega); omega
theorem placeAt_eq {L : List Sl} (h : ∀ x ∈ L, 1 ≤ x.desc.dur ∧ x.desc.dur ≤ 1000) {t : Int} {p : Nat} (h0 : 0 ≤ t) (h1 : dursum (L.take p) ≤ t) (h2 : t < dursum (L.take (p + 1))) : placeAt L t = p := by
  have h3 := placeAt_in (L := L) h0 (by have := (dur_all h (p + 1)).2; omega)
  exact place_one h h3.2.1 h3.2.2 h1 h2
structure Lies (m : Me) (x : Ss) (j R S r s : Nat) : Prop where
  hm : x.m = j
  hj : j < m.modes.length
  hR : (mdOf m.modes j).rounds = R
  hS : (mdOf m.modes j).slots = S
  R1 : 1 ≤ R
  R8 : R ≤ 8
  S1 : 1 ≤ S
  S16 : S ≤ 16
  xr : x.r = r
  lr : r < R
  xs : x.s = s
  ls : s < S
  t0 : 0 ≤ x.t
  t1 : x.t ≤ 65535
  m1 : j ≤ 15
  k0 : 0 ≤ x.k
  k1 : x.k ≤ 4294967295
  hk : x.k.toNat &&& actv m = x.k.toNat
  hl : (inMode m.slots j).length = R * S
theorem belongs_get {m : Me} (W : Well m) {x : Ss} (h : belongsB m x = true) : ∃ j R S r s, Lies m x j R S r s := by
  simp only [belongsB, isSs, Bool.and_eq_true, decide_eq_true_eq] at h
  obtain ⟨h1, h2, h3, h4, h5⟩ := h
  obtain ⟨⟨t0, t1⟩, ⟨m0, m1⟩, ⟨r0, r1⟩, ⟨s0, s1⟩, k0, k1⟩ := isState_iff.1 h1
  obtain ⟨j, hj, hlt⟩ := mode_nat h2
  rw [hj, Int.toNat_natCast] at h3 h4
  have b := md_bounds W.r3 hlt
  refine ⟨j, (mdOf m.modes j).rounds.toNat, (mdOf m.modes j).slots.toNat, x.r.toNat, x.s.toNat, hj, hlt, ?_, ?_, ?_, ?_, ?_, ?_, ?_, ?_, ?_, ?_, t0, t1, ?_, k0, k1, h5, cyc_len W hlt⟩
  all_goals omega
section
variable {m : Me} {x : Ss} {j R S r s : Nat} (W : Well m) (h : Lies m x j R S r s)
include h
theorem Lies.place : placeOf m x = r * S + s := by
  unfold placeOf
  rw [h.hm, Int.toNat_natCast, h.hS, h.xr, h.xs]
  simp
theorem Lies.cyc_ : cyc m x = inMode m.slots j := by unfold cyc; rw [h.hm, Int.toNat_natCast]
theorem Lies.lt : r * S + s < (inMode m.slots j).length := by rw [h.hl]; exact nat_place h.lr h.ls
theorem Lies.Rn : (mdOf m.modes j).rounds.toNat = R := by rw [h.hR]; simp
theorem Lies.Sn : (mdOf m.modes j).slots.toNat = S := by rw [h.hS]; simp
theorem Lies.start : startOf m x = dursum ((inMode m.slots j).take (r * S + s)) := by unfold startOf; rw [h.cyc_, h.place]
theorem Lies.next : nextOf m x = ⟨(x.t + (descOf m x).dur) % 65536, x.m, (stepRS S R r s).1, (stepRS S R r s).2, x.k⟩ := by
  unfold nextOf
  rw [h.hm, Int.toNat_natCast, h.hS, h.hR, h.xr, h.xs]
theorem Lies.desc_ : descOf m x = (slOf (inMode m.slots j) (r * S + s)).desc := by unfold descOf; rw [h.cyc_, h.place]
include W
theorem Lies.key : slOf (inMode m.slots j) (r * S + s) ∈ m.slots ∧ (slOf (inMode m.slots j) (r * S + s)).mode = (j : Int) ∧ (slOf (inMode m.slots j) (r * S + s)).round = (r : Int) ∧ (slOf (inMode m.slots j) (r * S + s)).slot = (s : Int) := by
  have := cyc_key W h.hj (r := r) (s := s) (by rw [h.Rn]; exact h.lr) (by rw [h.Sn]; exact h.ls)
  rw [h.Sn] at this
  exact this
theorem Lies.found : findSlot m.slots x.m x.r x.s = (descOf m x, 0) := by
  obtain ⟨g0, g1, g2, g3⟩ := h.key W
  rw [h.desc_, h.hm, h.xr, h.xs, ← g1, ← g2, ← g3]
  exact find_here W.r4 g0
theorem Lies.dur : 1 ≤ (descOf m x).dur ∧ (descOf m x).dur ≤ 1000 := by
  rw [h.desc_]
  exact sl_dur W.r4 (h.key W).1
omit W in
theorem Lies.step : ∃ r' s', Lies m (nextOf m x) j R S r' s' ∧ (stepRS S R r s = ((r' : Int), (s' : Int))) ∧ r' * S + s' = if r * S + s + 1 = R * S then 0 else r * S + s + 1 := by
  have hn := h.next
  have hlr := h.lr
  have hls := h.ls
  have hR1 := h.R1
  have hS1 := h.S1
  have key : ∀ r' s' : Nat, stepRS (S : Int) (R : Int) r s = ((r' : Int), (s' : Int)) → r' < R → s' < S → Lies m (nextOf m x) j R S r' s' := by
    intro r' s' e l1 l2
    rw [hn, e]
    exact ⟨h.hm, h.hj, h.hR, h.hS, h.R1, h.R8, h.S1, h.S16, rfl, l1, rfl, l2, Int.emod_nonneg _ (by omega), by have := Int.emod_lt_of_pos (x.t + (descOf m x).dur) (show (0 : Int) < 65536 by omega); show (x.t + (descOf m x).dur) % 65536 ≤ 65535; omega, h.m1, h.k0, h.k1, h.hk, h.hl⟩
  by_cases hs : s + 1 = S
  · have e1 : r * S + s + 1 = (r + 1) * S := by rw [Nat.succ_mul]; omega
    by_cases hr : r + 1 = R
    · have e : stepRS (S : Int) (R : Int) r s = (((0 : Nat) : Int), ((0 : Nat) : Int)) := by
        unfold stepRS
        rw [if_pos (by omega), show ((r : Int) + 1) = (R : Int) by omega, Int.emod_self]; rfl
      refine ⟨0, 0, key 0 0 e (by omega) (by omega), e, ?_⟩
      rw [e1, hr, if_pos rfl]; omega
    · have e : stepRS (S : Int) (R : Int) r s = (((r + 1 : Nat) : Int), ((0 : Nat) : Int)) := by
        unfold stepRS
        rw [if_pos (by omega), Int.emod_eq_of_lt (by omega) (by omega)]; rfl
      refine ⟨r + 1, 0, key (r + 1) 0 e (by omega) (by omega), e, ?_⟩
      rw [e1, if_neg]
      · omega
      · intro hc
        have := Nat.mul_le_mul_right S (show r + 1 + 1 ≤ R by omega)
        rw [Nat.succ_mul] at this
        omega
  · have e : stepRS (S : Int) (R : Int) r s = ((r : Int), ((s + 1 : Nat) : Int)) := by
      unfold stepRS
      rw [if_neg (by omega)]; rfl
    refine ⟨r, s + 1, key r (s + 1) e hlr (by omega), e, ?_⟩
    have := nat_place hlr (show s + 1 < S by omega)
    rw [if_neg (by omega)]
    omega
end
theorem Lies.iter {m : Me} (W : Well m) {x : Ss} {j R S r s : Nat} (h : Lies m x j R S r s) : ∀ n, ∃ r' s', Lies m (iterL m x n) j R S r' s' ∧ (iterL m x n).k = x.k
  | 0 => ⟨r, s, h, rfl⟩
  | n + 1 => by
    obtain ⟨r1, s1, h1, h2⟩ := h.iter W n
    obtain ⟨r2, s2, h3, -⟩ := h1.step
    exact ⟨r2, s2, h3, by show (nextOf m (iterL m x n)).k = x.k; rw [h1.next]; exact h2⟩
theorem Lies.walk {m : Me} (W : Well m) {x : Ss} {j R S r s : Nat} (h : Lies m x j R S r s) : ∀ n, n ≤ R * S → ∃ r' s', Lies m (iterL m x n) j R S r' s' ∧
    ((r * S + s + n < R * S ∧ r' * S + s' = r * S + s + n ∧ (iterL m x n).t = (x.t + (dursum ((inMode m.slots j).take (r' * S + s')) - dursum ((inMode m.slots j).take (r * S + s)))) % 65536) ∨
     (R * S ≤ r * S + s + n ∧ r' * S + s' + R * S = r * S + s + n ∧ (iterL m x n).t = (x.t + (dursum (inMode m.slots j) + dursum ((inMode m.slots j).take (r' * S + s')) - dursum ((inMode m.slots j).take (r * S + s)))) % 65536))
  | 0, _ => ⟨r, s, h, .inl ⟨by have := nat_place h.lr h.ls; omega, rfl, by
      show x.t = _
      rw [Int.sub_self, Int.add_zero]
      have := h.t0
      have := h.t1
      omega⟩⟩
  | n + 1, hn => by
    obtain ⟨r1, s1, h1, hc⟩ := h.walk W n (by omega)
    obtain ⟨r2, s2, h3, -, hp⟩ := h1.step
    have hlt := h1.lt
    have hlen := h1.hl
    have hlt0 := nat_place h.lr h.ls
    have ht : (iterL m x (n + 1)).t = ((iterL m x n).t + (slOf (inMode m.slots j) (r1 * S + s1)).desc.dur) % 65536 := by
      show (nextOf m (iterL m x n)).t = _
      rw [h1.next, h1.desc_]
    have hd := dursum_next hlt
    refine ⟨r2, s2, h3, ?_⟩
    rcases hc with ⟨c1, c2, c3⟩ | ⟨c1, c2, c3⟩
    · by_cases he : r1 * S + s1 + 1 = R * S
      · rw [if_pos he] at hp
        refine .inr ⟨by omega, by omega, ?_⟩
        rw [ht, c3, hp]
        rw [he, List.take_of_length_le (by omega)] at hd
        simp only [List.take_zero, dursum]
        omega
      · rw [if_neg he] at hp
        refine .inl ⟨by omega, by omega, ?_⟩
        rw [ht, c3, hp, hd]
        omega
    · have hne : r1 * S + s1 + 1 ≠ R * S := by omega
      rw [if_neg hne] at hp
      refine .inr ⟨by omega, by omega, ?_⟩
      rw [ht, c3, hp, hd]
      omega
theorem Lies.round {m : Me} (W : Well m) {x : Ss} {j R S r s : Nat} (h : Lies m x j R S r s) : (iterL m x (R * S)).r = x.r ∧ (iterL m x (R * S)).s = x.s ∧ (iterL m x (R * S)).t = (x.t + dursum (inMode m.slots j)) % 65536 := by
  obtain ⟨r', s', h1, hc⟩ := h.walk W (R * S) (Nat.le_refl _)
  have := nat_place h.lr h.ls
  rcases hc with ⟨c1, -, -⟩ | ⟨-, c2, c3⟩
  · omega
  · obtain ⟨rfl, rfl⟩ := place_same (a := r') (r := r) h1.ls h.ls (by omega)
    refine ⟨by rw [h1.xr, h.xr], by rw [h1.xs, h.xs], ?_⟩
    rw [c3]
    congr 1
    omega
theorem Lies.at_ {m : Me} (W : Well m) {x : Ss} {j R S r s : Nat} (h : Lies m x j R S r s) {d : Int} (h0 : 0 ≤ d) (h1 : d < (descOf m x).dur) (hm : isMedl m = true) : slotAt m x.m (startOf m x + d) = (x.r, x.s, 0) := by
  have hd := dursum_next h.lt
  rw [h.desc_] at h1
  have hb := dur_all (cyc_dur W (k := j)) (r * S + s)
  have hb2 := dur_all (cyc_dur W (k := j)) (r * S + s + 1)
  have hp := placeAt_eq (cyc_dur W (k := j)) (t := startOf m x + d) (p := r * S + s) (by rw [h.start]; omega) (by rw [h.start]; omega) (by rw [h.start, hd]; omega)
  unfold slotAt
  have hc : codeLm m x.m = 0 := by
    unfold codeLm
    rw [if_neg (by rw [hm]; simp), if_neg]
    rw [isMode_iff.2 ⟨by rw [h.hm]; omega, by rw [h.hm]; have := h.hj; omega⟩]
    simp
  rw [if_pos hc, h.hm, Int.toNat_natCast, if_neg (by rw [h.start]; omega), hp, h.Sn, (place_div h.ls).1, (place_div h.ls).2, h.xr, h.xs]
end

section
open Go.RowKit
def decStr (n : Nat) : ByteArray := ⟨(Lib.decDigits n).toArray⟩
theorem strOf_one (x : Nat) : strOfNums [(x : Int)] = ⟨#[UInt8.ofNat x]⟩ := by
  simp [strOfNums]
theorem decStr_small {n : Nat} (h : n < 10) : decStr n = strOfNums [48 + (n : Int)] := by
  have e : (48 + (n : Int)) = ((48 + n : Nat) : Int) := by omega
  rw [e, strOf_one]
  unfold decStr
  rw [Lib.decDigits, dif_pos h]
theorem decStr_big {n : Nat} (h : ¬ n < 10) : decStr n = decStr (n / 10) ++ strOfNums [48 + ((n % 10 : Nat) : Int)] := by
  have e : (48 + ((n % 10 : Nat) : Int)) = ((48 + n % 10 : Nat) : Int) := by omega
  rw [e, strOf_one]
  unfold decStr
  rw [Lib.decDigits, dif_neg h]
  apply ByteArray.ext
  simp
theorem decStr_size (n : Nat) (h : n < 18446744073709551616) : (decStr n).size ≤ 20 := by
  show (Lib.decDigits n).toArray.size ≤ 20
  rw [List.size_toArray, Lib.decDigits_length]
  exact Lib.nDigits_le20 n h
theorem conv_one (w : World) (x : Int) : (convert 22 9 (.slice (some ⟨w.heap.size, 0, none⟩) 1 1)).run Tryz.prog (w.alloc (.cells #[.int .u8 x] 5)) = .ok (.string (strOfNums [x])) (w.alloc (.cells #[.int .u8 x] 5)) :=
  run_convert_bytes_arg (w.alloc (.cells #[.int .u8 x] 5)) 22 5 Tryz.underlying22 Tryz.underlying5 w.heap.size 0 1 1 [x] rfl (fun i hi => by
    have : i = 0 := by omega
    subst this
    rw [World.cell?_alloc_at _ _ _ _ rfl]; rfl) 9 Tryz.underlying9
end
end Go.Proofs.YthihjhidjnadaaaGreat
