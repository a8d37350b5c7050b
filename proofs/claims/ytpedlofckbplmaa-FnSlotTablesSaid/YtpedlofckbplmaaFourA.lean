/-
  A struct of five 64-bit numbers among a law's arguments: opened to its numbers. No program is named here.
  Chapter 4: states in memory; two states compared; valid states on both sides.
  Chapter 4: TimeBetween on both sides.
  Chapter 4: AdvanceState on both sides.
  Chapter 4: AdvanceState on the specification's side.
  Chapter 4: the bits of a state on both sides.
  Chapter 4: StateToBits on both sides.
  Chapter 4: StateFromBits on both sides.
  Chapter 4: StateDistance on both sides.
-/
import Derived.Lib.SmallJoins
import Derived.ChangeArms
import Derived.Test.YtpedlofckbplmaaSt
import Derived.Test.YtpedlofckbplmaaOne
import Derived.Test.YtpedlofckbplmaaIn
import Derived.Deep.QuietTactic
import Derived.Laws.StructEq
import Derived.Deep.RegionHeld3
import Derived.Deep.DeepCutAuto
import Derived.Test.YtpedlofckbplmaaOneB
namespace Go.Proofs.Ytpedlofckbplmaa
section
open Go.Joins Go.ChangeShapes Go.WideShapes Go.RowKit

theorem list_five {α : Type} {cs : List α} (h : cs.length = 5) : ∃ a b c d e, cs = [a, b, c, d, e] := by
  match cs, h with
  | [a, b, c, d, e], _ => exact ⟨a, b, c, d, e, rfl⟩
section
variable {H : Type} {enc : TypeId × Value → H} {P : Program} {w : World} {base : Nat} {spare : Nat → Bool} {held : Bool}
/-- A place of a struct whose field there is a 64-bit number of one cell. -/
theorem int_at {cs : List Value} {f : Field} {i F n : Nat} {y : DataW H × List MemPlace} (hF : P.underlying F = some (.int .i64)) (hC : P.cellsOf F = 1) (hf : f.type = F ∧ f.offset = i)
    (h : DataW.trod enc P w base spare held n f.type ((cs.drop f.offset).take (P.cellsOf f.type)) = some y) : ∃ x : Int, (cs.drop i).take 1 = [.int .i64 x] ∧ y.2 = [] ∧ (Lit.int .i64 x).wf = true := by
  obtain ⟨rfl, rfl⟩ := hf
  rw [hC] at h
  obtain ⟨x, h1, h2, h3⟩ := DataW.trod_int hF h
  exact ⟨x, h1, by rw [h2], h3⟩
/-- The struct opened: five numbers, each in its kind's range. -/
theorem open_five {r : Reach} {b0 : Nat} {t F : TypeId} {f0 f1 f2 f3 f4 : Field} {v : Value} {d : DataW H} {p : List MemPlace} (hs : P.underlying t = some (.struct #[f0, f1, f2, f3, f4])) (hF : P.underlying F = some (.int .i64)) (hCF : P.cellsOf F = 1) (hC : P.cellsOf t = 5)
    (hfs : (f0.type = F ∧ f0.offset = 0) ∧ (f1.type = F ∧ f1.offset = 1) ∧ (f2.type = F ∧ f2.offset = 2) ∧ (f3.type = F ∧ f3.offset = 3) ∧ f4.type = F ∧ f4.offset = 4)
    (hv : Value.okWide P w r b0 t v) (h : DataW.Trod enc P w base spare held t v d p) :
    ∃ n0 n1 n2 n3 n4 : Int, v = .agg #[.int .i64 n0, .int .i64 n1, .int .i64 n2, .int .i64 n3, .int .i64 n4] ∧ p = [] ∧
      (Lit.int .i64 n0).wf = true ∧ (Lit.int .i64 n1).wf = true ∧ (Lit.int .i64 n2).wf = true ∧ (Lit.int .i64 n3).wf = true ∧ (Lit.int .i64 n4).wf = true := by
  obtain ⟨⟨cs⟩, rfl, hsz⟩ := okWide_struct hs hv
  obtain ⟨c0, c1, c2, c3, c4, rfl⟩ := list_five (hsz.trans hC)
  obtain ⟨fuel, hf⟩ := h
  obtain ⟨xs, n, -, hx, -, hlen, hg⟩ := DataW.trod_struct hs hf
  obtain ⟨y0, y1, y2, y3, y4, rfl⟩ := list_five hlen
  obtain ⟨h0, h1, h2, h3, h4⟩ := hfs
  obtain ⟨n0, e0, p0, w0⟩ := int_at (y := y0) hF hCF h0 (by simpa [Value.cells] using hg 0 f0 rfl)
  obtain ⟨n1, e1, p1, w1⟩ := int_at (y := y1) hF hCF h1 (by simpa [Value.cells] using hg 1 f1 rfl)
  obtain ⟨n2, e2, p2, w2⟩ := int_at (y := y2) hF hCF h2 (by simpa [Value.cells] using hg 2 f2 rfl)
  obtain ⟨n3, e3, p3, w3⟩ := int_at (y := y3) hF hCF h3 (by simpa [Value.cells] using hg 3 f3 rfl)
  obtain ⟨n4, e4, p4, w4⟩ := int_at (y := y4) hF hCF h4 (by simpa [Value.cells] using hg 4 f4 rfl)
  simp only [List.drop_zero, List.drop_succ_cons, List.take_succ_cons, List.take_zero, List.cons.injEq, and_true] at e0 e1 e2 e3 e4
  simp only [Prod.mk.injEq] at hx
  subst e0 e1 e2 e3 e4
  exact ⟨n0, n1, n2, n3, n4, rfl, by rw [hx.2]; simp [p0, p1, p2, p3, p4], w0, w1, w2, w3, w4⟩
end
end

section
open Go.RowKit

/-- Block b holds a state. -/
def StateAt (T : Nat) (w : World) (b : Nat) (t m r s k : Int) : Prop := w.heap[b]? = some (.cells #[.int .i64 t, .int .i64 m, .int .i64 r, .int .i64 s, .int .i64 k] T (0, 0))
/-- A state handed back, all old memory as it was. -/
def GivesState (w : World) (t m r s k : Int) (e : Ending) (w' : World) : Prop := e = .returned (.agg #[.int .i64 t, .int .i64 m, .int .i64 r, .int .i64 s, .int .i64 k]) ∧ Below w.heap.size w w'
section
variable {T b p : Nat} {w w' : World} {t m r s k : Int}
theorem StateAt.c0 (h : StateAt T w b t m r s k) : w.cell? ⟨b, 0, none⟩ = some (.int .i64 t) := cell_of_row w b 0 _ _ (0, 0) h
theorem StateAt.c1 (h : StateAt T w b t m r s k) : w.cell? ⟨b, 1, none⟩ = some (.int .i64 m) := cell_of_row w b 1 _ _ (0, 0) h
theorem StateAt.c2 (h : StateAt T w b t m r s k) : w.cell? ⟨b, 2, none⟩ = some (.int .i64 r) := cell_of_row w b 2 _ _ (0, 0) h
theorem StateAt.c3 (h : StateAt T w b t m r s k) : w.cell? ⟨b, 3, none⟩ = some (.int .i64 s) := cell_of_row w b 3 _ _ (0, 0) h
theorem StateAt.c4 (h : StateAt T w b t m r s k) : w.cell? ⟨b, 4, none⟩ = some (.int .i64 k) := cell_of_row w b 4 _ _ (0, 0) h
theorem StateAt.f (h : StateAt T w b t m r s k) (i : Nat) : w.frozen? ⟨b, i, none⟩ = false := frozen_of_row w b i _ _ h
theorem StateAt.lt (h : StateAt T w b t m r s k) : b < w.heap.size := (Array.getElem?_eq_some_iff.1 h).1
theorem StateAt.grown {g : Option Nat} (h : StateAt T w b t m r s k) (hg : w.grownBy w' g) (hne : some b ≠ g) : StateAt T w' b t m r s k := (hg.block b h.lt hne).trans h
theorem StateAt.below {B : Nat} (h : StateAt T w b t m r s k) (hb : Below B w w') (hlt : b < B) : StateAt T w' b t m r s k := (hb.block b hlt).trans h
theorem StateAt.new (w : World) : StateAt T (w.alloc (.cells #[.int .i64 t, .int .i64 m, .int .i64 r, .int .i64 s, .int .i64 k] T)) w.heap.size t m r s k := heap_alloc_new w _
theorem StateAt.set0 (h : StateAt T w b t m r s k) (z : Int) : StateAt T (w.setCell ⟨b, 0, none⟩ (.int .i64 z)) b z m r s k := by
  have := heap_setCell_same w b 0 _ _ (.int .i64 z) h
  simpa [StateAt] using this
theorem StateAt.set1 (h : StateAt T w b t m r s k) (z : Int) : StateAt T (w.setCell ⟨b, 1, none⟩ (.int .i64 z)) b t z r s k := by
  have := heap_setCell_same w b 1 _ _ (.int .i64 z) h
  simpa [StateAt] using this
theorem StateAt.set2 (h : StateAt T w b t m r s k) (z : Int) : StateAt T (w.setCell ⟨b, 2, none⟩ (.int .i64 z)) b t m z s k := by
  have := heap_setCell_same w b 2 _ _ (.int .i64 z) h
  simpa [StateAt] using this
theorem StateAt.set3 (h : StateAt T w b t m r s k) (z : Int) : StateAt T (w.setCell ⟨b, 3, none⟩ (.int .i64 z)) b t m r z k := by
  have := heap_setCell_same w b 3 _ _ (.int .i64 z) h
  simpa [StateAt] using this
theorem StateAt.set4 (h : StateAt T w b t m r s k) (z : Int) : StateAt T (w.setCell ⟨b, 4, none⟩ (.int .i64 z)) b t m r s z := by
  have := heap_setCell_same w b 4 _ _ (.int .i64 z) h
  simpa [StateAt] using this
theorem StateAt.other (h : StateAt T w b t m r s k) {c i : Nat} {v : Value} (hne : b ≠ c) : StateAt T (w.setCell ⟨c, i, none⟩ v) b t m r s k := (heap_setCell_other _ _ _ _ hne).trans h
end

/-! ### two states compared -/
theorem state_eql (t m r s k t' m' r' s' k' : Int) (w : World) : (binOp .eql 179 (.agg #[.int .i64 t, .int .i64 m, .int .i64 r, .int .i64 s, .int .i64 k]) (.agg #[.int .i64 t', .int .i64 m', .int .i64 r', .int .i64 s', .int .i64 k'])).run Try.prog w = .ok (.bool (decide (t = t' ∧ m = m' ∧ r = r' ∧ s = s' ∧ k = k'))) w := by
  rw [run_eql_struct]
  have h : (Op.equalIn 10000 179 (.agg #[.int .i64 t, .int .i64 m, .int .i64 r, .int .i64 s, .int .i64 k]) (.agg #[.int .i64 t', .int .i64 m', .int .i64 r', .int .i64 s', .int .i64 k'])).run Try.prog w = .ok (decide (t = t' ∧ m = m' ∧ r = r' ∧ s = s' ∧ k = k')) w := by
    rw [run_equalIn_agg w 9999 _ _ _ (by kernel_rfl) (by kernel_rfl)]
    have hp : Try.prog.stoodInHeld 2 = false := by kernel_rfl
    simp only [Program.fieldsOf, Try.underlying179, Op.eqFields]
    by_cases h1 : t = t' <;> by_cases h2 : m = m' <;> by_cases h3 : r = r' <;> by_cases h4 : s = s' <;> by_cases h5 : k = k' <;> simp [go_sem, h1, h2, h3, h4, h5]
  rw [h]; rfl

/-! ### what the laws do with states -/
/-- The struct that a call lays first reads as it was behind whatever leaves old memory alone. -/
theorem state_new {T : Nat} {w w' : World} {t m r s k : Int} (h : Below (w.alloc (.cells #[.int .i64 t, .int .i64 m, .int .i64 r, .int .i64 s, .int .i64 k] T)).heap.size (w.alloc (.cells #[.int .i64 t, .int .i64 m, .int .i64 r, .int .i64 s, .int .i64 k] T)) w') : StateAt T w' w.heap.size t m r s k :=
  (StateAt.new w).below h (by simp)
theorem below_box {w w' : World} {o : Obj} (h : Below (w.alloc o).heap.size (w.alloc o) w') : Below w.heap.size w w' := below_two ((Below.refl _ _).alloc (Nat.le_refl _) _) h
/-- The two structs that a call lays first. -/
theorem state_new2 {T U : Nat} {w w' : World} {t m r s k t' m' r' s' k' : Int} (h : Below ((w.alloc (.cells #[.int .i64 t, .int .i64 m, .int .i64 r, .int .i64 s, .int .i64 k] T)).alloc (.cells #[.int .i64 t', .int .i64 m', .int .i64 r', .int .i64 s', .int .i64 k'] U)).heap.size ((w.alloc (.cells #[.int .i64 t, .int .i64 m, .int .i64 r, .int .i64 s, .int .i64 k] T)).alloc (.cells #[.int .i64 t', .int .i64 m', .int .i64 r', .int .i64 s', .int .i64 k'] U)) w') :
    StateAt T w' w.heap.size t m r s k ∧ StateAt U w' (w.heap.size + 1) t' m' r' s' k' :=
  ⟨((StateAt.new w).below (B := (w.alloc (.cells #[.int .i64 t, .int .i64 m, .int .i64 r, .int .i64 s, .int .i64 k] T)).heap.size) ((Below.refl _ _).alloc (Nat.le_refl _) _) (by simp)).below h (by simp; omega), by
    have e : (w.alloc (.cells #[.int .i64 t, .int .i64 m, .int .i64 r, .int .i64 s, .int .i64 k] T)).heap.size = w.heap.size + 1 := by simp
    have := (StateAt.new (T := U) (t := t') (m := m') (r := r') (s := s') (k := k') (w.alloc (.cells #[.int .i64 t, .int .i64 m, .int .i64 r, .int .i64 s, .int .i64 k] T))).below h (by simp)
    rwa [e] at this⟩
theorem cells_two {T U : Nat} {w w' : World} {t m r s k t' m' r' s' k' : Int} (h : Below ((w.alloc (.cells #[.int .i64 t, .int .i64 m, .int .i64 r, .int .i64 s, .int .i64 k] T)).alloc (.cells #[.int .i64 t', .int .i64 m', .int .i64 r', .int .i64 s', .int .i64 k'] U)).heap.size ((w.alloc (.cells #[.int .i64 t, .int .i64 m, .int .i64 r, .int .i64 s, .int .i64 k] T)).alloc (.cells #[.int .i64 t', .int .i64 m', .int .i64 r', .int .i64 s', .int .i64 k'] U)) w') :
    w'.cell? ⟨w.heap.size, 0, none⟩ = some (.int .i64 t) ∧ w'.cell? ⟨w.heap.size, 1, none⟩ = some (.int .i64 m) ∧ w'.cell? ⟨w.heap.size, 2, none⟩ = some (.int .i64 r) ∧ w'.cell? ⟨w.heap.size, 3, none⟩ = some (.int .i64 s) ∧ w'.cell? ⟨w.heap.size, 4, none⟩ = some (.int .i64 k) ∧ w'.cell? ⟨w.heap.size + 1, 0, none⟩ = some (.int .i64 t') ∧ w'.cell? ⟨w.heap.size + 1, 1, none⟩ = some (.int .i64 m') ∧ w'.cell? ⟨w.heap.size + 1, 2, none⟩ = some (.int .i64 r') ∧ w'.cell? ⟨w.heap.size + 1, 3, none⟩ = some (.int .i64 s') ∧ w'.cell? ⟨w.heap.size + 1, 4, none⟩ = some (.int .i64 k') :=
  have ⟨h1, h2⟩ := state_new2 h
  ⟨h1.c0, h1.c1, h1.c2, h1.c3, h1.c4, h2.c0, h2.c1, h2.c2, h2.c3, h2.c4⟩
theorem below_box2 {w w' : World} {o u : Obj} (h : Below ((w.alloc o).alloc u).heap.size ((w.alloc o).alloc u) w') : Below w.heap.size w w' := below_box (below_box h)

/-! ### valid states -/
theorem and_mask16 (n : Int) : bits .and .i64 n 65535 = n % 65536 := by
  have h1 : (BitVec.ofInt 64 65535).toNat = 2 ^ 16 - 1 := by decide
  have key : (BitVec.ofInt 64 n &&& BitVec.ofInt 64 65535).toNat = (n % ((2 ^ 64 : Nat) : Int)).toNat % 2 ^ 16 := by
    rw [BitVec.toNat_and, BitVec.toNat_ofInt, h1, Nat.and_two_pow_sub_one_eq_mod]
  show IntKind.i64.wrap ((BitVec.ofInt 64 n &&& BitVec.ofInt 64 65535).toNat : Nat) = n % 65536
  rw [key, IntKind.wrap_i64]
  omega
theorem and_mask4 (n : Int) : bits .and .i64 n 15 = n % 16 := by
  have h1 : (BitVec.ofInt 64 15).toNat = 2 ^ 4 - 1 := by decide
  have key : (BitVec.ofInt 64 n &&& BitVec.ofInt 64 15).toNat = (n % ((2 ^ 64 : Nat) : Int)).toNat % 2 ^ 4 := by
    rw [BitVec.toNat_and, BitVec.toNat_ofInt, h1, Nat.and_two_pow_sub_one_eq_mod]
  show IntKind.i64.wrap ((BitVec.ofInt 64 n &&& BitVec.ofInt 64 15).toNat : Nat) = n % 16
  rw [key, IntKind.wrap_i64]
  omega
theorem and_mask8 (n : Int) : bits .and .i64 n 255 = n % 256 := by
  have h1 : (BitVec.ofInt 64 255).toNat = 2 ^ 8 - 1 := by decide
  have key : (BitVec.ofInt 64 n &&& BitVec.ofInt 64 255).toNat = (n % ((2 ^ 64 : Nat) : Int)).toNat % 2 ^ 8 := by
    rw [BitVec.toNat_and, BitVec.toNat_ofInt, h1, Nat.and_two_pow_sub_one_eq_mod]
  show IntKind.i64.wrap ((BitVec.ofInt 64 n &&& BitVec.ofInt 64 255).toNat : Nat) = n % 256
  rw [key, IntKind.wrap_i64]
  omega
theorem and_mask32 (n : Int) : bits .and .i64 n 4294967295 = n % 4294967296 := by
  have h1 : (BitVec.ofInt 64 4294967295).toNat = 2 ^ 32 - 1 := by decide
  have key : (BitVec.ofInt 64 n &&& BitVec.ofInt 64 4294967295).toNat = (n % ((2 ^ 64 : Nat) : Int)).toNat % 2 ^ 32 := by
    rw [BitVec.toNat_and, BitVec.toNat_ofInt, h1, Nat.and_two_pow_sub_one_eq_mod]
  show IntKind.i64.wrap ((BitVec.ofInt 64 n &&& BitVec.ofInt 64 4294967295).toNat : Nat) = n % 4294967296
  rw [key, IntKind.wrap_i64]
  omega
theorem masks_iff (t m r s k : Int) : decide (t = t % 65536 ∧ m = m % 16 ∧ r = r % 16 ∧ s = s % 256 ∧ k = k % 4294967296) = isState t m r s k := by
  rw [Bool.eq_iff_iff, isState_iff, decide_eq_true_eq]
  omega
end

section
open Go.RowKit

/-- What TimeBetween answers. -/
def timeOf (t m r s k t' m' r' s' k' : Int) : Int × Int := if isState t m r s k = false ∨ isState t' m' r' s' k' = false then (0, 1) else (timeBetween t t', 0)
theorem to_1 {t m r s k t' m' r' s' k' : Int} (h : isState t m r s k = false) : timeOf t m r s k t' m' r' s' k' = (0, 1) := by simp [timeOf, h]
theorem to_2 {t m r s k t' m' r' s' k' : Int} (h : isState t' m' r' s' k' = false) : timeOf t m r s k t' m' r' s' k' = (0, 1) := by simp [timeOf, h]
theorem to_0 {t m r s k t' m' r' s' k' : Int} (h : isState t m r s k = true) (h' : isState t' m' r' s' k' = true) : timeOf t m r s k t' m' r' s' k' = (timeBetween t t', 0) := by simp [timeOf, h, h']
theorem wrap_i16 (n : Int) : IntKind.i16.wrap n = (n + 32768) % 65536 - 32768 := by
  simp [IntKind.wrap, IntKind.signed, IntKind.bits]
  omega
theorem time_wrap {t t' : Int} (_h0 : 0 ≤ t) (_h1 : t ≤ 65535) (_h2 : 0 ≤ t') (_h3 : t' ≤ 65535) : IntKind.i16.wrap (t' - t) = timeBetween t t' := by
  rw [wrap_i16]
  unfold timeBetween
  split <;> omega
theorem ret_two {a b c d : Int} (h : a = b) (k : c = d) : Ending.returned (.tuple #[.int .i64 a, .int .i64 c]) = .returned (.tuple #[.int .i64 b, .int .i64 d]) := by rw [h, k]
def TimeLeft (w : World) (q : Int × Int) (e : Ending) (w' : World) : Prop := e = .returned (.tuple #[.int .i64 q.1, .int .i64 q.2]) ∧ Below w.heap.size w w'
end

section
open Go.RowKit

/-- A state and a number handed back, all old memory as it was. -/
def GivesState2 (w : World) (q : Int × Int × Int × Int × Int × Int) (e : Ending) (w' : World) : Prop := e = .returned (.tuple #[.agg #[.int .i64 q.1, .int .i64 q.2.1, .int .i64 q.2.2.1, .int .i64 q.2.2.2.1, .int .i64 q.2.2.2.2.1], .int .i64 q.2.2.2.2.2]) ∧ Below w.heap.size w w'
/-- What AdvanceState is asked. -/
def mayAdvance (r s d slots rounds : Int) : Bool := inRange 0 65535 d && inRange 1 256 slots && inRange 1 16 rounds && decide (s < slots) && decide (r < rounds)
/-- What AdvanceState answers. -/
def advanced (t m r s k d slots rounds : Int) : Int × Int × Int × Int × Int × Int :=
  if isState t m r s k = false then (0, 0, 0, 0, 0, 1) else if mayAdvance r s d slots rounds = false then (0, 0, 0, 0, 0, 2) else ((t + d) % 65536, m, (stepRS slots rounds r s).1, (stepRS slots rounds r s).2, k, 0)
section
variable {t m r s k d slots rounds : Int}
theorem ad_1 (h : isState t m r s k = false) : advanced t m r s k d slots rounds = (0, 0, 0, 0, 0, 1) := by simp [advanced, h]
theorem ad_2 (h : isState t m r s k = true) (h2 : mayAdvance r s d slots rounds = false) : advanced t m r s k d slots rounds = (0, 0, 0, 0, 0, 2) := by simp [advanced, h, h2]
theorem ad_0 (h : isState t m r s k = true) (h2 : mayAdvance r s d slots rounds = true) : advanced t m r s k d slots rounds = ((t + d) % 65536, m, (stepRS slots rounds r s).1, (stepRS slots rounds r s).2, k, 0) := by simp [advanced, h, h2]
theorem may_iff : mayAdvance r s d slots rounds = true ↔ (0 ≤ d ∧ d ≤ 65535) ∧ (1 ≤ slots ∧ slots ≤ 256) ∧ (1 ≤ rounds ∧ rounds ≤ 16) ∧ s < slots ∧ r < rounds := by
  simp only [mayAdvance, inRange, Bool.and_eq_true, decide_eq_true_eq]
  constructor
  · rintro ⟨⟨⟨⟨a, b⟩, c⟩, d⟩, e⟩; exact ⟨a, b, c, d, e⟩
  · rintro ⟨a, b, c, d, e⟩; exact ⟨⟨⟨⟨a, b⟩, c⟩, d⟩, e⟩
theorem may_not (h : ¬ ((0 ≤ d ∧ d ≤ 65535) ∧ (1 ≤ slots ∧ slots ≤ 256) ∧ (1 ≤ rounds ∧ rounds ≤ 16) ∧ s < slots ∧ r < rounds)) : mayAdvance r s d slots rounds = false := by
  rcases hm : mayAdvance r s d slots rounds with _ | _
  · rfl
  · exact absurd (may_iff.1 hm) h
end

theorem below_two' {B : Nat} {a w w' : World} (h : Below B a w) (k : Below B w w') : Below B a w' := h.trans k
theorem zero_store {T : Nat} {w w1 : World} {t m r s k : Int} (h : Below ((w.alloc (.cells #[.int .i64 t, .int .i64 m, .int .i64 r, .int .i64 s, .int .i64 k] T)).alloc (.cells #[.int .i64 0, .int .i64 0, .int .i64 0, .int .i64 0, .int .i64 0] T)).heap.size ((w.alloc (.cells #[.int .i64 t, .int .i64 m, .int .i64 r, .int .i64 s, .int .i64 k] T)).alloc (.cells #[.int .i64 0, .int .i64 0, .int .i64 0, .int .i64 0, .int .i64 0] T)) w1) {w2 : World} (h2 : Below w.heap.size w1 w2) : Below w.heap.size w w2 := (below_box2 h).trans h2
/-- Five stores in a row. -/
def setFive (w : World) (b : Nat) (t m r s k : Int) : World := ((((w.setCell ⟨b, 0, none⟩ (.int .i64 t)).setCell ⟨b, 1, none⟩ (.int .i64 m)).setCell ⟨b, 2, none⟩ (.int .i64 r)).setCell ⟨b, 3, none⟩ (.int .i64 s)).setCell ⟨b, 4, none⟩ (.int .i64 k)
theorem below_five {B b : Nat} {w : World} (hb : B ≤ b) (t m r s k : Int) : Below B w (setFive w b t m r s k) := ((((((Below.refl _ _).setCell hb _).setCell hb _).setCell hb _).setCell hb _).setCell hb _)
theorem StateAt.five {T b : Nat} {w : World} {t m r s k : Int} (h : StateAt T w b t m r s k) (t' m' r' s' k' : Int) : StateAt T (setFive w b t' m' r' s' k') b t' m' r' s' k' :=
  ((((h.set0 t').set1 m').set2 r').set3 s').set4 k'

section
variable {t m r s k d slots rounds : Int}
end
end

section
open Go.RowKit

section
variable {t m r s k d slots rounds : Int}
theorem in_iff {lo hi x : Int} : inRange lo hi x = true ↔ lo ≤ x ∧ x ≤ hi := by simp [inRange]
theorem in_not {lo hi x : Int} (h : inRange lo hi x = false) : ¬ (lo ≤ x ∧ x ≤ hi) := fun k => by rw [in_iff.2 k] at h; cases h
end
end

section
open Go.RowKit

end

section
open Go.RowKit

/-- What StateToBits answers. -/
def stateToBits (t m r s k : Int) : List Int × Int := if isState t m r s k = false then ([], 1) else (stateBits t m r s k, 0)
theorem sb_1 {t m r s k : Int} (h : isState t m r s k = false) : stateToBits t m r s k = ([], 1) := by simp [stateToBits, h]
theorem sb_0 {t m r s k : Int} (h : isState t m r s k = true) : stateToBits t m r s k = (stateBits t m r s k, 0) := by simp [stateToBits, h]
theorem stateToBits_len (t m r s k : Int) : (stateToBits t m r s k).1.length ≤ 8192 := by
  rcases h : isState t m r s k with _ | _
  · rw [sb_1 h]; simp
  · rw [sb_0 h]; simp only; rw [stateBits_len]; omega
/-! ### the program's: a list of fields -/
def fieldBits (fs : List (Int × Nat)) : List Int := fs.flatMap fun f => bitsOf f.1 f.2
theorem fieldBits_succ (fs : List (Int × Nat)) (k : Nat) (hk : k < fs.length) : fieldBits (fs.take (k + 1)) = fieldBits (fs.take k) ++ bitsOf (fs.getD k (0, 0)).1 (fs.getD k (0, 0)).2 := by
  unfold fieldBits
  rw [List.take_add_one, List.getElem?_eq_getElem hk, List.flatMap_append]
  simp [List.getD, hk]
theorem fieldBits_len (fs : List (Int × Nat)) (h : ∀ f ∈ fs, f.2 ≤ 40) : (fieldBits fs).length ≤ 40 * fs.length := by
  induction fs with
  | nil => simp [fieldBits]
  | cons f fs ih =>
    have h1 := h f (by simp)
    have h2 := ih fun g hg => h g (by simp [hg])
    unfold fieldBits at h2 ⊢
    rw [List.flatMap_cons, List.length_append, bitsOf_len, List.length_cons]
    omega
end

section
open Go.RowKit

theorem Rd.rest {w : World} {ao : Option Addr} {n : Nat} {xs : List Int} (h : Rd w ao n xs) {a : Nat} (ha : a ≤ n) : Rd w (Option.map (fun x => x.add a) ao) (n - a) (xs.drop a) := by
  have h1 := h.slice (a := a) (k := n - a) (by omega)
  rwa [List.take_of_length_le (by rw [List.length_drop, h.len]; exact Nat.le_refl _)] at h1
theorem Rd.first {w : World} {ao : Option Addr} {n : Nat} {xs : List Int} (h : Rd w ao n xs) {a : Nat} (ha : a ≤ n) : Rd w ao a (xs.take a) := by
  have hl := h.len
  refine ⟨by rw [List.length_take]; omega, fun h0 => ?_⟩
  obtain ⟨b, off, rfl, hc⟩ := h.here (by omega)
  exact ⟨b, off, rfl, fun i hi => by rw [hc i (by omega)]; simp [List.getD, hi]⟩
/-- What StateFromBits answers. -/
def stateFrom (xs : List Int) : Int × Int × Int × Int × Int × Int :=
  if isBits xs = false ∨ xs.length ≠ 64 then (0, 0, 0, 0, 0, 2) else (numIn xs 0 16, numIn xs 16 4, numIn xs 20 4, numIn xs 24 8, numIn xs 32 32, 0)
theorem sf_len {xs : List Int} (h : xs.length ≠ 64) : stateFrom xs = (0, 0, 0, 0, 0, 2) := by unfold stateFrom; rw [if_pos (.inr h)]
theorem sf_bits {xs : List Int} (h : isBits xs = false) : stateFrom xs = (0, 0, 0, 0, 0, 2) := by unfold stateFrom; rw [if_pos (.inl h)]
theorem sf_0 {xs : List Int} (h : isBits xs = true) (hl : xs.length = 64) : stateFrom xs = (numIn xs 0 16, numIn xs 16 4, numIn xs 20 4, numIn xs 24 8, numIn xs 32 32, 0) := by unfold stateFrom; rw [if_neg (by simp [h, hl])]
def Taken (w : World) (x : Int) (a : Option Addr) (n c : Nat) (e : Ending) (w' : World) : Prop := e = .returned (.tuple #[.int .i64 x, .slice a n c]) ∧ ∃ q, w' = w.drewN q
end

section
open Go.RowKit

/-- In how many bits two states differ. -/
def bitDist (t m r s k t' m' r' s' k' : Int) : Nat := (diffTo (stateBits t m r s k) (stateBits t' m' r' s' k') 64).length
/-- What StateDistance answers. -/
def distOf (t m r s k t' m' r' s' k' : Int) : Int × Int := if isState t m r s k = false ∨ isState t' m' r' s' k' = false then (0, 1) else ((bitDist t m r s k t' m' r' s' k' : Int), 0)
theorem di_1 {t m r s k t' m' r' s' k' : Int} (h : isState t m r s k = false) : distOf t m r s k t' m' r' s' k' = (0, 1) := by simp [distOf, h]
theorem di_2 {t m r s k t' m' r' s' k' : Int} (h : isState t' m' r' s' k' = false) : distOf t m r s k t' m' r' s' k' = (0, 1) := by simp [distOf, h]
theorem di_0 {t m r s k t' m' r' s' k' : Int} (h : isState t m r s k = true) (h' : isState t' m' r' s' k' = true) : distOf t m r s k t' m' r' s' k' = ((bitDist t m r s k t' m' r' s' k' : Int), 0) := by simp [distOf, h, h']
theorem bitDist_le (t m r s k t' m' r' s' k' : Int) : bitDist t m r s k t' m' r' s' k' ≤ 64 := diffTo_len _ _ _
theorem isBits_state (t m r s k : Int) : isBits (stateBits t m r s k) = true := isBits_iff.2 ⟨by rw [stateBits_len]; omega, stateBits_bits t m r s k⟩
theorem differing_state (t m r s k t' m' r' s' k' : Int) : differingBits (stateBits t m r s k) (stateBits t' m' r' s' k') = (diffTo (stateBits t m r s k) (stateBits t' m' r' s' k') 64, 0) := by
  unfold differingBits
  simp [isBits_state, stateBits_len]
end
end Go.Proofs.Ytpedlofckbplmaa
