/-
  A struct of five 64-bit numbers among a law's arguments: opened to its numbers. No program is named here.
  Chapter 4: states in memory; two states compared; valid states on both sides.
  Chapter 4: TimeBetween on both sides.
  Chapter 4: AdvanceState on both sides.
  Chapter 4: AdvanceState on the specification's side.
  Chapter 4: the bits of a state on both sides.
  Chapter 4: StateToBits on both sides.
  Chapter 4: StateFromBits on both sides.
  Chapter 4: StateDistance on both sides.
-/
import Derived.Lib.SmallJoins
import Derived.ChangeArms
import Derived.Test.YtbdfnkhmnglpbaaSt
import Derived.Test.YtbdfnkhmnglpbaaOne
import Derived.Test.YtbdfnkhmnglpbaaIn
import Derived.Deep.QuietTactic
import Derived.Laws.StructEq
import Derived.Deep.RegionHeld3
import Derived.Deep.DeepCutAuto
import Derived.Test.YtbdfnkhmnglpbaaOneB
namespace Go.Proofs.Ytbdfnkhmnglpbaa
section
open Go.Joins Go.ChangeShapes Go.WideShapes Go.RowKit

theorem list_five {α : Type} {cs : List α} (h : cs.length = 5) : ∃ a b c d e, cs = [a, b, c, d, e] := by
  match cs, h with
  | [a, b, c, d, e], _ => exact ⟨a, b, c, d, e, rfl⟩
section
variable {H : Type} {enc : TypeId × Value → H} {P : Program} {w : World} {base : Nat} {spare : Nat → Bool} {held : Bool}
/-- A place of a struct whose field there is a 64-bit number of one cell. -/
theorem int_at {cs : List Value} {f : Field} {i F n : Nat} {y : DataW H × List MemPlace} (hF : P.underlying F = some (.int .i64)) (hC : P.cellsOf F = 1) (hf : f.type = F ∧ f.offset = i)
    (h : DataW.trod enc P w base spare held n f.type ((cs.drop f.offset).take (P.cellsOf f.type)) = some y) : ∃ x : Int, (cs.drop i).take 1 = [.int .i64 x] ∧ y.2 = [] ∧ (Lit.int .i64 x).wf = true := by
  obtain ⟨rfl, rfl⟩ := hf
  rw [hC] at h
  obtain ⟨x, h1, h2, h3⟩ := DataW.trod_int hF h
  exact ⟨x, h1, by rw [h2], h3⟩
/-- The struct opened: five numbers, each in its kind's range. -/
theorem open_five {r : Reach} {b0 : Nat} {t F : TypeId} {f0 f1 f2 f3 f4 : Field} {v : Value} {d : DataW H} {p : List MemPlace} (hs : P.underlying t = some (.struct #[f0, f1, f2, f3, f4])) (hF : P.underlying F = some (.int .i64)) (hCF : P.cellsOf F = 1) (hC : P.cellsOf t = 5)
    (hfs : (f0.type = F ∧ f0.offset = 0) ∧ (f1.type = F ∧ f1.offset = 1) ∧ (f2.type = F ∧ f2.offset = 2) ∧ (f3.type = F ∧ f3.offset = 3) ∧ f4.type = F ∧ f4.offset = 4)
    (hv : Value.okWide P w r b0 t v) (h : DataW.Trod enc P w base spare held t v d p) :
    ∃ n0 n1 n2 n3 n4 : Int, v = .agg #[.int .i64 n0, .int .i64 n1, .int .i64 n2, .int .i64 n3, .int .i64 n4] ∧ p = [] ∧
      (Lit.int .i64 n0).wf = true ∧ (Lit.int .i64 n1).wf = true ∧ (Lit.int .i64 n2).wf = true ∧ (Lit.int .i64 n3).wf = true ∧ (Lit.int .i64 n4).wf = true := by
  obtain ⟨⟨cs⟩, rfl, hsz⟩ := okWide_struct hs hv
  obtain ⟨c0, c1, c2, c3, c4, rfl⟩ := list_five (hsz.trans hC)
  obtain ⟨fuel, hf⟩ := h
  obtain ⟨xs, n, -, hx, -, hlen, hg⟩ := DataW.trod_struct hs hf
  obtain ⟨y0, y1, y2, y3, y4, rfl⟩ := list_five hlen
  obtain ⟨h0, h1, h2, h3, h4⟩ := hfs
  obtain ⟨n0, e0, p0, w0⟩ := int_at (y := y0) hF hCF h0 (by simpa [Value.cells] using hg 0 f0 rfl)
  obtain ⟨n1, e1, p1, w1⟩ := int_at (y := y1) hF hCF h1 (by simpa [Value.cells] using hg 1 f1 rfl)
  obtain ⟨n2, e2, p2, w2⟩ := int_at (y := y2) hF hCF h2 (by simpa [Value.cells] using hg 2 f2 rfl)
  obtain ⟨n3, e3, p3, w3⟩ := int_at (y := y3) hF hCF h3 (by simpa [Value.cells] using hg 3 f3 rfl)
  obtain ⟨n4, e4, p4, w4⟩ := int_at (y := y4) hF hCF h4 (by simpa [Value.cells] using hg 4 f4 rfl)
  simp only [List.drop_zero, List.drop_succ_cons, List.take_succ_cons, List.take_zero, List.cons.injEq, and_true] at e0 e1 e2 e3 e4
  simp only [Prod.mk.injEq] at hx
  subst e0 e1 e2 e3 e4
  exact ⟨n0, n1, n2, n3, n4, rfl, by rw [hx.2]; simp [p0, p1, p2, p3, p4], w0, w1, w2, w3, w4⟩
end
end

section
open Go.RowKit

/-- Block b holds a state. -/
def StateAt (T : Nat) (w : World) (b : Nat) (t m r s k : Int) : Prop := w.heap[b]? = some (.cells #[.int .i64 t, .int .i64 m, .int .i64 r, .int .i64 s, .int .i64 k] T (0, 0))
/-- A state handed back, all old memory as it was. -/
def GivesState (w : World) (t m r s k : Int) (e : Ending) (w' : World) : Prop := e = .returned (.agg #[.int .i64 t, .int .i64 m, .int .i64 r, .int .i64 s, .int .i64 k]) ∧ Below w.heap.size w w'
section
variable {T b p : Nat} {w w' : World} {t m r s k : Int}
theorem StateAt.c0 (h : StateAt T w b t m r s k) : w.cell? ⟨b, 0, none⟩ = some (.int .i64 t) := cell_of_row w b 0 _ _ (0, 0) h
theorem StateAt.c1 (h : StateAt T w b t m r s k) : w.cell? ⟨b, 1, none⟩ = some (.int .i64 m) := cell_of_row w b 1 _ _ (0, 0) h
theorem StateAt.c2 (h : StateAt T w b t m r s k) : w.cell? ⟨b, 2, none⟩ = some (.int .i64 r) := cell_of_row w b 2 _ _ (0, 0) h
theorem StateAt.c3 (h : StateAt T w b t m r s k) : w.cell? ⟨b, 3, none⟩ = some (.int .i64 s) := cell_of_row w b 3 _ _ (0, 0) h
theorem StateAt.c4 (h : StateAt T w b t m r s k) : w.cell? ⟨b, 4, none⟩ = some (.int .i64 k) := cell_of_row w b 4 _ _ (0, 0) h
theorem StateAt.f (h : StateAt T w b t m r s k) (i : Nat) : w.frozen? ⟨b, i, none⟩ = false := frozen_of_row w b i _ _ h
theorem StateAt.lt (h : StateAt T w b t m r s k) : b < w.heap.size := (Array.getElem?_eq_some_iff.1 h).1
theorem StateAt.grown {g : Option Nat} (h : StateAt T w b t m r s k) (hg : w.grownBy w' g) (hne : some b ≠ g) : StateAt T w' b t m r s k := (hg.block b h.lt hne).trans h
theorem StateAt.below {B : Nat} (h : StateAt T w b t m r s k) (hb : Below B w w') (hlt : b < B) : StateAt T w' b t m r s k := (hb.block b hlt).trans h
theorem StateAt.new (w : World) : StateAt T (w.alloc (.cells #[.int .i64 t, .int .i64 m, .int .i64 r, .int .i64 s, .int .i64 k] T)) w.heap.size t m r s k := heap_alloc_new w _
theorem StateAt.set0 (h : StateAt T w b t m r s k) (z : Int) : StateAt T (w.setCell ⟨b, 0, none⟩ (.int .i64 z)) b z m r s k := by
  have := heap_setCell_same w b 0 _ _ (.int .i64 z) h
  simpa [StateAt] using this
theorem StateAt.set1 (h : StateAt T w b t m r s k) (z : Int) : StateAt T (w.setCell ⟨b, 1, none⟩ (.int .i64 z)) b t z r s k := by
  have := heap_setCell_same w b 1 _ _ (.int .i64 z) h
  simpa [StateAt] using this
theorem StateAt.set2 (h : StateAt T w b t m r s k) (z : Int) : StateAt T (w.setCell ⟨b, 2, none⟩ (.int .i64 z)) b t m z s k := by
  have := heap_setCell_same w b 2 _ _ (.int .i64 z) h
  simpa [StateAt] using this
theorem StateAt.set3 (h : StateAt T w b t m r s k) (z : Int) : StateAt T (w.setCell ⟨b, 3, none⟩ (.int .i64 z)) b t m r z k := by
  have := heap_setCell_same w b 3 _ _ (.int .i64 z) h
  simpa [StateAt] using this
theorem StateAt.set4 (h : StateAt T w b t m r s k) (z : Int) : StateAt T (w.setCell ⟨b, 4, none⟩ (.int .i64 z)) b t m r s z := by
  have := heap_setCell_same w b 4 _ _ (.int .i64 z) h
  simpa [StateAt] using this
theorem StateAt.other (h : StateAt T w b t m r s k) {c i : Nat} {v : Value} (hne : b ≠ c) : StateAt T (w.setCell ⟨c, i, none⟩ v) b t m r s k := (heap_setCell_other _ _ _ _ hne).trans h
end

/-! ### two states compared -/
theorem state_eql (t m r s k t' m' r' s' k' : Int) (w : World) : (binOp .eql 25 (.agg #[.int .i64 t, .int .i64 m, .int .i64 r, .int .i64 s, .int .i64 k]) (.agg #[.int .i64 t', .int .i64 m', .int .i64 r', .int .i64 s', .int .i64 k'])).run Try.prog w = .ok (.bool (decide (t = t' ∧ m = m' ∧ r = r' ∧ s = s' ∧ k = k'))) w := by
  rw [run_eql_struct]
  have h : (Op.equalIn 10000 25 (.agg #[.int .i64 t, .int .i64 m, .int .i64 r, .int .i64 s, .int .i64 k]) (.agg #[.int .i64 t', .int .i64 m', .int .i64 r', .int .i64 s', .int .i64 k'])).run Try.prog w = .ok (decide (t = t' ∧ m = m' ∧ r = r' ∧ s = s' ∧ k = k')) w := by
    rw [run_equalIn_agg w 9999 _ _ _ (by kernel_rfl) (by kernel_rfl)]
    have hp : Try.prog.stoodInHeld 2 = false := by kernel_rfl
    simp only [Program.fieldsOf, Try.underlying25, Op.eqFields]
    by_cases h1 : t = t' <;> by_cases h2 : m = m' <;> by_cases h3 : r = r' <;> by_cases h4 : s = s' <;> by_cases h5 : k = k' <;> simp [go_sem, h1, h2, h3, h4, h5]
  rw [h]; rfl

/-! ### what the laws do with states -/
theorem toState_any (t m r s k : Int) (w : World) : Calls Try.prog 55 #[.agg #[.int .i64 t, .int .i64 m, .int .i64 r, .int .i64 s, .int .i64 k]] w (GivesState w t m r s k) := by
  go_enter Try.func55, Try.ntmps55
  go_wp2
  exact bodyPost_ret (v := .agg #[.int .i64 t, .int .i64 m, .int .i64 r, .int .i64 s, .int .i64 k]) (by simp [results, Try.results55, go_sem]) rfl ⟨rfl, (((Below.refl _ _).alloc (Nat.le_refl _) _).alloc (by simp) _).alloc (by simp; omega) _⟩
theorem eqState_any (t m r s k : Int) (w : World) : Calls Try.prog 113 #[.agg #[.int .i64 t, .int .i64 m, .int .i64 r, .int .i64 s, .int .i64 k], .agg #[.int .i64 t, .int .i64 m, .int .i64 r, .int .i64 s, .int .i64 k]] w fun e w' => e = .returned (.bool true) ∧ Below w.heap.size w w' := by
  have h0 : (t != t) = false := by simp
  have h1 : (m != m) = false := by simp
  have h2 : (r != r) = false := by simp
  have h3 : (s != s) = false := by simp
  have h4 : (k != k) = false := by simp
  go_enter Try.func113, Try.ntmps113
  go_wp2
  go_ret
  exact ⟨rfl, ((Below.refl _ _).alloc (Nat.le_refl _) _).alloc (by simp) _⟩
/-- The struct that a call lays first reads as it was behind whatever leaves old memory alone. -/
theorem state_new {T : Nat} {w w' : World} {t m r s k : Int} (h : Below (w.alloc (.cells #[.int .i64 t, .int .i64 m, .int .i64 r, .int .i64 s, .int .i64 k] T)).heap.size (w.alloc (.cells #[.int .i64 t, .int .i64 m, .int .i64 r, .int .i64 s, .int .i64 k] T)) w') : StateAt T w' w.heap.size t m r s k :=
  (StateAt.new w).below h (by simp)
theorem below_box {w w' : World} {o : Obj} (h : Below (w.alloc o).heap.size (w.alloc o) w') : Below w.heap.size w w' := below_two ((Below.refl _ _).alloc (Nat.le_refl _) _) h
/-- The two structs that a call lays first. -/
theorem state_new2 {T U : Nat} {w w' : World} {t m r s k t' m' r' s' k' : Int} (h : Below ((w.alloc (.cells #[.int .i64 t, .int .i64 m, .int .i64 r, .int .i64 s, .int .i64 k] T)).alloc (.cells #[.int .i64 t', .int .i64 m', .int .i64 r', .int .i64 s', .int .i64 k'] U)).heap.size ((w.alloc (.cells #[.int .i64 t, .int .i64 m, .int .i64 r, .int .i64 s, .int .i64 k] T)).alloc (.cells #[.int .i64 t', .int .i64 m', .int .i64 r', .int .i64 s', .int .i64 k'] U)) w') :
    StateAt T w' w.heap.size t m r s k ∧ StateAt U w' (w.heap.size + 1) t' m' r' s' k' :=
  ⟨((StateAt.new w).below (B := (w.alloc (.cells #[.int .i64 t, .int .i64 m, .int .i64 r, .int .i64 s, .int .i64 k] T)).heap.size) ((Below.refl _ _).alloc (Nat.le_refl _) _) (by simp)).below h (by simp; omega), by
    have e : (w.alloc (.cells #[.int .i64 t, .int .i64 m, .int .i64 r, .int .i64 s, .int .i64 k] T)).heap.size = w.heap.size + 1 := by simp
    have := (StateAt.new (T := U) (t := t') (m := m') (r := r') (s := s') (k := k') (w.alloc (.cells #[.int .i64 t, .int .i64 m, .int .i64 r, .int .i64 s, .int .i64 k] T))).below h (by simp)
    rwa [e] at this⟩
theorem cells_two {T U : Nat} {w w' : World} {t m r s k t' m' r' s' k' : Int} (h : Below ((w.alloc (.cells #[.int .i64 t, .int .i64 m, .int .i64 r, .int .i64 s, .int .i64 k] T)).alloc (.cells #[.int .i64 t', .int .i64 m', .int .i64 r', .int .i64 s', .int .i64 k'] U)).heap.size ((w.alloc (.cells #[.int .i64 t, .int .i64 m, .int .i64 r, .int .i64 s, .int .i64 k] T)).alloc (.cells #[.int .i64 t', .int .i64 m', .int .i64 r', .int .i64 s', .int .i64 k'] U)) w') :
    w'.cell? ⟨w.heap.size, 0, none⟩ = some (.int .i64 t) ∧ w'.cell? ⟨w.heap.size, 1, none⟩ = some (.int .i64 m) ∧ w'.cell? ⟨w.heap.size, 2, none⟩ = some (.int .i64 r) ∧ w'.cell? ⟨w.heap.size, 3, none⟩ = some (.int .i64 s) ∧ w'.cell? ⟨w.heap.size, 4, none⟩ = some (.int .i64 k) ∧ w'.cell? ⟨w.heap.size + 1, 0, none⟩ = some (.int .i64 t') ∧ w'.cell? ⟨w.heap.size + 1, 1, none⟩ = some (.int .i64 m') ∧ w'.cell? ⟨w.heap.size + 1, 2, none⟩ = some (.int .i64 r') ∧ w'.cell? ⟨w.heap.size + 1, 3, none⟩ = some (.int .i64 s') ∧ w'.cell? ⟨w.heap.size + 1, 4, none⟩ = some (.int .i64 k') :=
  have ⟨h1, h2⟩ := state_new2 h
  ⟨h1.c0, h1.c1, h1.c2, h1.c3, h1.c4, h2.c0, h2.c1, h2.c2, h2.c3, h2.c4⟩
theorem below_box2 {w w' : World} {o u : Obj} (h : Below ((w.alloc o).alloc u).heap.size ((w.alloc o).alloc u) w') : Below w.heap.size w w' := below_box (below_box h)

/-! ### valid states -/
theorem and_mask16 (n : Int) : bits .and .i64 n 65535 = n % 65536 := by
  have h1 : (BitVec.ofInt 64 65535).toNat = 2 ^ 16 - 1 := by decide
  have key : (BitVec.ofInt 64 n &&& BitVec.ofInt 64 65535).toNat = (n % ((2 ^ 64 : Nat) : Int)).toNat % 2 ^ 16 := by
    rw [BitVec.toNat_and, BitVec.toNat_ofInt, h1, Nat.and_two_pow_sub_one_eq_mod]
  show IntKind.i64.wrap ((BitVec.ofInt 64 n &&& BitVec.ofInt 64 65535).toNat : Nat) = n % 65536
  rw [key, IntKind.wrap_i64]
  omega
theorem and_mask4 (n : Int) : bits .and .i64 n 15 = n % 16 := by
  have h1 : (BitVec.ofInt 64 15).toNat = 2 ^ 4 - 1 := by decide
  have key : (BitVec.ofInt 64 n &&& BitVec.ofInt 64 15).toNat = (n % ((2 ^ 64 : Nat) : Int)).toNat % 2 ^ 4 := by
    rw [BitVec.toNat_and, BitVec.toNat_ofInt, h1, Nat.and_two_pow_sub_one_eq_mod]
  show IntKind.i64.wrap ((BitVec.ofInt 64 n &&& BitVec.ofInt 64 15).toNat : Nat) = n % 16
  rw [key, IntKind.wrap_i64]
  omega
theorem and_mask8 (n : Int) : bits .and .i64 n 255 = n % 256 := by
  have h1 : (BitVec.ofInt 64 255).toNat = 2 ^ 8 - 1 := by decide
  have key : (BitVec.ofInt 64 n &&& BitVec.ofInt 64 255).toNat = (n % ((2 ^ 64 : Nat) : Int)).toNat % 2 ^ 8 := by
    rw [BitVec.toNat_and, BitVec.toNat_ofInt, h1, Nat.and_two_pow_sub_one_eq_mod]
  show IntKind.i64.wrap ((BitVec.ofInt 64 n &&& BitVec.ofInt 64 255).toNat : Nat) = n % 256
  rw [key, IntKind.wrap_i64]
  omega
theorem and_mask32 (n : Int) : bits .and .i64 n 4294967295 = n % 4294967296 := by
  have h1 : (BitVec.ofInt 64 4294967295).toNat = 2 ^ 32 - 1 := by decide
  have key : (BitVec.ofInt 64 n &&& BitVec.ofInt 64 4294967295).toNat = (n % ((2 ^ 64 : Nat) : Int)).toNat % 2 ^ 32 := by
    rw [BitVec.toNat_and, BitVec.toNat_ofInt, h1, Nat.and_two_pow_sub_one_eq_mod]
  show IntKind.i64.wrap ((BitVec.ofInt 64 n &&& BitVec.ofInt 64 4294967295).toNat : Nat) = n % 4294967296
  rw [key, IntKind.wrap_i64]
  omega
theorem masks_iff (t m r s k : Int) : decide (t = t % 65536 ∧ m = m % 16 ∧ r = r % 16 ∧ s = s % 256 ∧ k = k % 4294967296) = isState t m r s k := by
  rw [Bool.eq_iff_iff, isState_iff, decide_eq_true_eq]
  omega
theorem isState_any (t m r s k : Int) (w : World) : Calls Try.prog 78 #[.agg #[.int .i64 t, .int .i64 m, .int .i64 r, .int .i64 s, .int .i64 k]] w fun e w' => e = .returned (.bool (isState t m r s k)) ∧ Below w.heap.size w w' := by
  have he := fun w => state_eql t m r s k (t % 65536) (m % 16) (r % 16) (s % 256) (k % 4294967296) w
  rw [masks_iff] at he
  rw [← and_mask16 t, ← and_mask4 m, ← and_mask4 r, ← and_mask8 s, ← and_mask32 k] at he
  go_enter Try.func78, Try.ntmps78
  go_wp2
  go_ret
  exact ⟨rfl, (Below.refl _ _).alloc (Nat.le_refl _) _⟩
theorem sIsState_any (t m r s k : Int) (w : World) : Calls Try.prog 71 #[.agg #[.int .i64 t, .int .i64 m, .int .i64 r, .int .i64 s, .int .i64 k]] w fun e w' => e = .returned (.bool (isState t m r s k)) ∧ Below w.heap.size w w' := by
  rcases h0 : inRange 0 65535 t with _ | _
  · rw [show isState t m r s k = false from by simp [isState, h0]]
    go_enter Try.func71, Try.ntmps71
    go_wp2_with (go_at_call 107; refine (l01In_any _ _ _ _).mono ?_; rintro e w' ⟨rfl, rfl⟩)
    go_ret
    exact ⟨rfl, (Below.refl _ _).alloc (Nat.le_refl _) _⟩
  rcases h1 : inRange 0 15 m with _ | _
  · rw [show isState t m r s k = false from by simp [isState, h1]]
    go_enter Try.func71, Try.ntmps71
    go_wp2_with (go_at_call 107; refine (l01In_any _ _ _ _).mono ?_; rintro e w' ⟨rfl, rfl⟩)
    go_ret
    exact ⟨rfl, (Below.refl _ _).alloc (Nat.le_refl _) _⟩
  rcases h2 : inRange 0 15 r with _ | _
  · rw [show isState t m r s k = false from by simp [isState, h2]]
    go_enter Try.func71, Try.ntmps71
    go_wp2_with (go_at_call 107; refine (l01In_any _ _ _ _).mono ?_; rintro e w' ⟨rfl, rfl⟩)
    go_ret
    exact ⟨rfl, (Below.refl _ _).alloc (Nat.le_refl _) _⟩
  rcases h3 : inRange 0 255 s with _ | _
  · rw [show isState t m r s k = false from by simp [isState, h3]]
    go_enter Try.func71, Try.ntmps71
    go_wp2_with (go_at_call 107; refine (l01In_any _ _ _ _).mono ?_; rintro e w' ⟨rfl, rfl⟩)
    go_ret
    exact ⟨rfl, (Below.refl _ _).alloc (Nat.le_refl _) _⟩
  have hk : isState t m r s k = inRange 0 4294967295 k := by simp [isState, h0, h1, h2, h3]
  rw [hk]; clear hk
  go_enter Try.func71, Try.ntmps71
  go_wp2_with (go_at_call 107; refine (l01In_any _ _ _ _).mono ?_; rintro e w' ⟨rfl, rfl⟩)
  go_ret
  exact ⟨rfl, (Below.refl _ _).alloc (Nat.le_refl _) _⟩
end

section
open Go.RowKit

/-- What TimeBetween answers. -/
def timeOf (t m r s k t' m' r' s' k' : Int) : Int × Int := if isState t m r s k = false ∨ isState t' m' r' s' k' = false then (0, 1) else (timeBetween t t', 0)
theorem to_1 {t m r s k t' m' r' s' k' : Int} (h : isState t m r s k = false) : timeOf t m r s k t' m' r' s' k' = (0, 1) := by simp [timeOf, h]
theorem to_2 {t m r s k t' m' r' s' k' : Int} (h : isState t' m' r' s' k' = false) : timeOf t m r s k t' m' r' s' k' = (0, 1) := by simp [timeOf, h]
theorem to_0 {t m r s k t' m' r' s' k' : Int} (h : isState t m r s k = true) (h' : isState t' m' r' s' k' = true) : timeOf t m r s k t' m' r' s' k' = (timeBetween t t', 0) := by simp [timeOf, h, h']
theorem wrap_i16 (n : Int) : IntKind.i16.wrap n = (n + 32768) % 65536 - 32768 := by
  simp [IntKind.wrap, IntKind.signed, IntKind.bits]
  omega
theorem time_wrap {t t' : Int} (_h0 : 0 ≤ t) (_h1 : t ≤ 65535) (_h2 : 0 ≤ t') (_h3 : t' ≤ 65535) : IntKind.i16.wrap (t' - t) = timeBetween t t' := by
  rw [wrap_i16]
  unfold timeBetween
  split <;> omega
theorem ret_two {a b c d : Int} (h : a = b) (k : c = d) : Ending.returned (.tuple #[.int .i64 a, .int .i64 c]) = .returned (.tuple #[.int .i64 b, .int .i64 d]) := by rw [h, k]
def TimeLeft (w : World) (q : Int × Int) (e : Ending) (w' : World) : Prop := e = .returned (.tuple #[.int .i64 q.1, .int .i64 q.2]) ∧ Below w.heap.size w w'
end

section
open Go.RowKit

/-- A state and a number handed back, all old memory as it was. -/
def GivesState2 (w : World) (q : Int × Int × Int × Int × Int × Int) (e : Ending) (w' : World) : Prop := e = .returned (.tuple #[.agg #[.int .i64 q.1, .int .i64 q.2.1, .int .i64 q.2.2.1, .int .i64 q.2.2.2.1, .int .i64 q.2.2.2.2.1], .int .i64 q.2.2.2.2.2]) ∧ Below w.heap.size w w'
/-- What AdvanceState is asked. -/
def mayAdvance (r s d slots rounds : Int) : Bool := inRange 0 65535 d && inRange 1 256 slots && inRange 1 16 rounds && decide (s < slots) && decide (r < rounds)
/-- What AdvanceState answers. -/
def advanced (t m r s k d slots rounds : Int) : Int × Int × Int × Int × Int × Int :=
  if isState t m r s k = false then (0, 0, 0, 0, 0, 1) else if mayAdvance r s d slots rounds = false then (0, 0, 0, 0, 0, 2) else ((t + d) % 65536, m, (stepRS slots rounds r s).1, (stepRS slots rounds r s).2, k, 0)
section
variable {t m r s k d slots rounds : Int}
theorem ad_1 (h : isState t m r s k = false) : advanced t m r s k d slots rounds = (0, 0, 0, 0, 0, 1) := by simp [advanced, h]
theorem ad_2 (h : isState t m r s k = true) (h2 : mayAdvance r s d slots rounds = false) : advanced t m r s k d slots rounds = (0, 0, 0, 0, 0, 2) := by simp [advanced, h, h2]
theorem ad_0 (h : isState t m r s k = true) (h2 : mayAdvance r s d slots rounds = true) : advanced t m r s k d slots rounds = ((t + d) % 65536, m, (stepRS slots rounds r s).1, (stepRS slots rounds r s).2, k, 0) := by simp [advanced, h, h2]
theorem may_iff : mayAdvance r s d slots rounds = true ↔ (0 ≤ d ∧ d ≤ 65535) ∧ (1 ≤ slots ∧ slots ≤ 256) ∧ (1 ≤ rounds ∧ rounds ≤ 16) ∧ s < slots ∧ r < rounds := by
  simp only [mayAdvance, inRange, Bool.and_eq_true, decide_eq_true_eq]
  constructor
  · rintro ⟨⟨⟨⟨a, b⟩, c⟩, d⟩, e⟩; exact ⟨a, b, c, d, e⟩
  · rintro ⟨a, b, c, d, e⟩; exact ⟨⟨⟨⟨a, b⟩, c⟩, d⟩, e⟩
theorem may_not (h : ¬ ((0 ≤ d ∧ d ≤ 65535) ∧ (1 ≤ slots ∧ slots ≤ 256) ∧ (1 ≤ rounds ∧ rounds ≤ 16) ∧ s < slots ∧ r < rounds)) : mayAdvance r s d slots rounds = false := by
  rcases hm : mayAdvance r s d slots rounds with _ | _
  · rfl
  · exact absurd (may_iff.1 hm) h
end

theorem below_two' {B : Nat} {a w w' : World} (h : Below B a w) (k : Below B w w') : Below B a w' := h.trans k
theorem zero_store {T : Nat} {w w1 : World} {t m r s k : Int} (h : Below ((w.alloc (.cells #[.int .i64 t, .int .i64 m, .int .i64 r, .int .i64 s, .int .i64 k] T)).alloc (.cells #[.int .i64 0, .int .i64 0, .int .i64 0, .int .i64 0, .int .i64 0] T)).heap.size ((w.alloc (.cells #[.int .i64 t, .int .i64 m, .int .i64 r, .int .i64 s, .int .i64 k] T)).alloc (.cells #[.int .i64 0, .int .i64 0, .int .i64 0, .int .i64 0, .int .i64 0] T)) w1) {w2 : World} (h2 : Below w.heap.size w1 w2) : Below w.heap.size w w2 := (below_box2 h).trans h2
/-- Five stores in a row. -/
def setFive (w : World) (b : Nat) (t m r s k : Int) : World := ((((w.setCell ⟨b, 0, none⟩ (.int .i64 t)).setCell ⟨b, 1, none⟩ (.int .i64 m)).setCell ⟨b, 2, none⟩ (.int .i64 r)).setCell ⟨b, 3, none⟩ (.int .i64 s)).setCell ⟨b, 4, none⟩ (.int .i64 k)
theorem below_five {B b : Nat} {w : World} (hb : B ≤ b) (t m r s k : Int) : Below B w (setFive w b t m r s k) := ((((((Below.refl _ _).setCell hb _).setCell hb _).setCell hb _).setCell hb _).setCell hb _)
theorem StateAt.five {T b : Nat} {w : World} {t m r s k : Int} (h : StateAt T w b t m r s k) (t' m' r' s' k' : Int) : StateAt T (setFive w b t' m' r' s' k') b t' m' r' s' k' :=
  ((((h.set0 t').set1 m').set2 r').set3 s').set4 k'

section
variable {t m r s k d slots rounds : Int}
end
end

section
open Go.RowKit

section
variable {t m r s k d slots rounds : Int}
theorem in_iff {lo hi x : Int} : inRange lo hi x = true ↔ lo ≤ x ∧ x ≤ hi := by simp [inRange]
theorem in_not {lo hi x : Int} (h : inRange lo hi x = false) : ¬ (lo ≤ x ∧ x ≤ hi) := fun k => by rw [in_iff.2 k] at h; cases h
end
end

section
open Go.RowKit

theorem sApp (ao : Option Addr) (n cap : Nat) (xs : List Int) (val W : Int) (width : Nat) (w : World) (hW : (width : Int) = W) (hr : Rd w ao n xs) (hl : n ≤ 1048576) (hw : width ≤ 40) :
    Calls Try.prog 153 #[.slice ao n cap, .int .i64 val, .int .i64 W] w (Makes 2 w (xs ++ bitsOf val width)) := by
  subst hW; exact l01Append_any ao n cap xs val width w hr hl hw
theorem sApp0 (val W : Int) (width : Nat) (w : World) (hW : (width : Int) = W) (hw : width ≤ 40) :
    Calls Try.prog 153 #[.slice none 0 0, .int .i64 val, .int .i64 W] w (Makes 2 w (bitsOf val width)) := by
  have h := sApp none 0 0 [] val W width w hW Rd.nil_ (by omega) hw
  rwa [List.nil_append] at h
set_option maxRecDepth 100000 in
theorem l04Bits_any (t m r s k : Int) (w : World) : Calls Try.prog 126 #[.agg #[.int .i64 t, .int .i64 m, .int .i64 r, .int .i64 s, .int .i64 k]] w (Makes 2 w (stateBits t m r s k)) := by
  obtain ⟨A1, e1⟩ : ∃ A, bitsOf t 16 = A := ⟨_, rfl⟩
  obtain ⟨A2, e2⟩ : ∃ A, A1 ++ bitsOf m 4 = A := ⟨_, rfl⟩
  obtain ⟨A3, e3⟩ : ∃ A, A2 ++ bitsOf r 4 = A := ⟨_, rfl⟩
  obtain ⟨A4, e4⟩ : ∃ A, A3 ++ bitsOf s 8 = A := ⟨_, rfl⟩
  obtain ⟨z, e5⟩ : ∃ A, A4 ++ bitsOf k 32 = A := ⟨_, rfl⟩
  have hz : stateBits t m r s k = z := by rw [← e5, ← e4, ← e3, ← e2, ← e1]; rfl
  rw [hz]
  have l1 : A1.length = 16 := by rw [← e1]; exact bitsOf_len _ _
  have l2 : A2.length = 20 := by rw [← e2, List.length_append, l1, bitsOf_len]
  have l3 : A3.length = 24 := by rw [← e3, List.length_append, l2, bitsOf_len]
  have l4 : A4.length = 32 := by rw [← e4, List.length_append, l3, bitsOf_len]
  have L1 := Lib.hid l1; clear l1
  have L2 := Lib.hid l2; clear l2
  have L3 := Lib.hid l3; clear l3
  have L4 := Lib.hid l4; clear l4
  have E1 := Lib.hid e1; clear e1
  have E2 := Lib.hid e2; clear e2
  have E3 := Lib.hid e3; clear e3
  have E4 := Lib.hid e4; clear e4
  have E5 := Lib.hid e5; clear e5 hz
  have H0 : Held 2 (w.alloc (.cells #[.int .i64 t, .int .i64 m, .int .i64 r, .int .i64 s, .int .i64 k] 25)) (w.alloc (.cells #[.int .i64 t, .int .i64 m, .int .i64 r, .int .i64 s, .int .i64 k] 25)) [] := Held.start
  go_enter Try.func126, Try.ntmps126
  go_upto_region 1 with fail
  have H1 := Lib.hid (H0.still (Below.drew (Below.refl _ _))); clear H0
  go_region_held3 (fun w' => w'.cell? ⟨w.heap.size, 0, none⟩ = some (.int .i64 t) ∧ w'.cell? ⟨w.heap.size, 1, none⟩ = some (.int .i64 m))
    (first | exact ⟨(state_new H1.out.below).c0, (state_new H1.out.below).c1⟩ | exact ⟨(state_new H2.out.below).c0, (state_new H2.out.below).c1⟩ | exact ⟨(state_new H3.out.below).c0, (state_new H3.out.below).c1⟩)
    (first
      | (go_at_call 153; (with_reducible refine (sApp0 t 16 16 _ rfl ?_).mono ?_); (· omega); rintro e w1 m1; rw [E1.out] at m1; obtain ⟨p1, c1, rfl, o1, -, b1⟩ := m1.get; have H2 := Lib.hid (H1.out.make o1 b1); clear o1 b1 m1)
      | (go_at_call 153; have RR := H2.out.rd 0 rfl rfl; (with_reducible refine (sApp _ _ _ A1 m 4 4 _ rfl RR ?_ ?_).mono ?_); (· have := L1.out; omega); (· omega); clear RR; rintro e w2 m2; rw [E2.out] at m2; obtain ⟨p2, c2, rfl, o2, -, b2⟩ := m2.get; have H3 := Lib.hid (H2.out.make o2 b2); clear o2 b2 m2))
  go_upto_region 2 with fail
  have H4 := Lib.hid (H3.out.still (Below.drew (Below.refl _ _))); clear H1 H2 H3
  go_region_held3 (fun w' => w'.cell? ⟨w.heap.size, 2, none⟩ = some (.int .i64 r) ∧ w'.cell? ⟨w.heap.size, 3, none⟩ = some (.int .i64 s) ∧ w'.cell? ⟨w.heap.size, 4, none⟩ = some (.int .i64 k))
    (first | exact ⟨(state_new H4.out.below).c2, (state_new H4.out.below).c3, (state_new H4.out.below).c4⟩ | exact ⟨(state_new H5.out.below).c2, (state_new H5.out.below).c3, (state_new H5.out.below).c4⟩ | exact ⟨(state_new H6.out.below).c2, (state_new H6.out.below).c3, (state_new H6.out.below).c4⟩ | exact ⟨(state_new H7.out.below).c2, (state_new H7.out.below).c3, (state_new H7.out.below).c4⟩)
    (first
      | (go_at_call 153; have RR := H4.out.rd 0 rfl rfl; (with_reducible refine (sApp _ _ _ A2 r 4 4 _ rfl RR ?_ ?_).mono ?_); (· have := L2.out; omega); (· omega); clear RR; rintro e w3 m3; rw [E3.out] at m3; obtain ⟨p3, c3, rfl, o3, -, b3⟩ := m3.get; have H5 := Lib.hid (H4.out.make o3 b3); clear o3 b3 m3)
      | (go_at_call 153; have RR := H5.out.rd 0 rfl rfl; (with_reducible refine (sApp _ _ _ A3 s 8 8 _ rfl RR ?_ ?_).mono ?_); (· have := L3.out; omega); (· omega); clear RR; rintro e w4 m4; rw [E4.out] at m4; obtain ⟨p4, c4, rfl, o4, -, b4⟩ := m4.get; have H6 := Lib.hid (H5.out.make o4 b4); clear o4 b4 m4)
      | (go_at_call 153; have RR := H6.out.rd 0 rfl rfl; (with_reducible refine (sApp _ _ _ A4 k 32 32 _ rfl RR ?_ ?_).mono ?_); (· have := L4.out; omega); (· omega); clear RR; rintro e w5 m5; rw [E5.out] at m5; obtain ⟨p5, c5, rfl, o5, -, b5⟩ := m5.get; have H7 := Lib.hid (H6.out.make o5 b5); clear o5 b5 m5))
  go_wp2_with fail
  go_ret
  exact ⟨_, rfl, (H7.out.get 0 rfl).more (by simp), below_box H7.out.below⟩
end

section
open Go.RowKit

/-- What StateToBits answers. -/
def stateToBits (t m r s k : Int) : List Int × Int := if isState t m r s k = false then ([], 1) else (stateBits t m r s k, 0)
theorem sb_1 {t m r s k : Int} (h : isState t m r s k = false) : stateToBits t m r s k = ([], 1) := by simp [stateToBits, h]
theorem sb_0 {t m r s k : Int} (h : isState t m r s k = true) : stateToBits t m r s k = (stateBits t m r s k, 0) := by simp [stateToBits, h]
theorem stateToBits_len (t m r s k : Int) : (stateToBits t m r s k).1.length ≤ 8192 := by
  rcases h : isState t m r s k with _ | _
  · rw [sb_1 h]; simp
  · rw [sb_0 h]; simp only; rw [stateBits_len]; omega
/-! ### the program's: a list of fields -/
def fieldBits (fs : List (Int × Nat)) : List Int := fs.flatMap fun f => bitsOf f.1 f.2
theorem fieldBits_succ (fs : List (Int × Nat)) (k : Nat) (hk : k < fs.length) : fieldBits (fs.take (k + 1)) = fieldBits (fs.take k) ++ bitsOf (fs.getD k (0, 0)).1 (fs.getD k (0, 0)).2 := by
  unfold fieldBits
  rw [List.take_add_one, List.getElem?_eq_getElem hk, List.flatMap_append]
  simp [List.getD, hk]
theorem fieldBits_len (fs : List (Int × Nat)) (h : ∀ f ∈ fs, f.2 ≤ 40) : (fieldBits fs).length ≤ 40 * fs.length := by
  induction fs with
  | nil => simp [fieldBits]
  | cons f fs ih =>
    have h1 := h f (by simp)
    have h2 := ih fun g hg => h g (by simp [hg])
    unfold fieldBits at h2 ⊢
    rw [List.flatMap_cons, List.length_append, bitsOf_len, List.length_cons]
    omega
set_option maxRecDepth 100000 in
theorem bitsOfFields_any (b cap : Nat) (fs : List (Int × Nat)) (w : World) (hn : fs.length ≤ 8) (hw : ∀ f ∈ fs, f.2 ≤ 40) (hb : b < w.heap.size)
    (hc : ∀ i, i < fs.length → w.cell? ⟨b, i * 2, none⟩ = some (.int .i64 (fs.getD i (0, 0)).1) ∧ w.cell? ⟨b, i * 2 + 1, none⟩ = some (.int .i64 ((fs.getD i (0, 0)).2 : Nat))) :
    Calls Try.prog 151 #[.slice (some ⟨b, 0, none⟩) fs.length cap] w (Makes 2 w (fieldBits fs)) := by
  obtain ⟨n, hN⟩ : ∃ n, n = fs.length := ⟨_, rfl⟩
  rw [← hN] at hn hc ⊢
  have HN := Lib.hid hN; clear hN
  have HC := Lib.hid hc; clear hc
  have HW := Lib.hid hw; clear hw
  go_enter Try.func151, Try.ntmps151
  go_wp2
  go_loopw [3, 8] (fun v i wr => ∃ k : Nat, k ≤ n ∧ i = .int .i64 k ∧ Own 2 wr w.heap.size v (fieldBits (fs.take k)) ∧ Below w.heap.size w wr) (fun _ i _ => n - (intOf i).toNat)
  case atStart => exact ⟨0, Nat.zero_le _, rfl, Own.nil_, Below.refl _ _⟩
  case round =>
    obtain ⟨k, hk, rfl, hown, hbel⟩ := hrel
    by_cases hlt : k < n
    · have hkf : k < fs.length := by rw [← HN.out]; exact hlt
      obtain ⟨hc0, hc1⟩ := HC.out k hlt
      have hwk : (fs.getD k (0, 0)).2 ≤ 40 := HW.out _ (by simp [List.getD, hkf])
      have hlen : (fieldBits (fs.take k)).length ≤ 1048576 := by
        have := fieldBits_len (fs.take k) fun f hf => HW.out f (List.mem_of_mem_take hf)
        rw [List.length_take] at this
        omega
      have hfin := fieldBits_succ fs k hkf
      generalize fs.getD k (0, 0) = f at hc0 hc1 hwk hfin
      obtain ⟨x, d⟩ := f
      simp only at hc0 hc1 hwk hfin
      have d0 := (hbel.cell (p := ⟨b, k * 2, none⟩) hb).trans hc0
      have d1 := (hbel.cell (p := ⟨b, k * 2 + 1, none⟩) hb).trans hc1
      have hsz := hbel.size
      have HL := Lib.hid hlen
      have HF := Lib.hid hfin
      have HO := Lib.hid hown
      have HB := Lib.hid hbel
      clear hlen hfin hown hbel hc0 hc1 hkf
      go_wp2_with fail
      have hba : Below wr.heap.size wr (wr.alloc (.cells #[.int .i64 x, .int .i64 (d : Nat)] 159)) := (Below.refl _ _).alloc (Nat.le_refl _) _
      have HBA := Lib.hid hba; clear hba d0 d1
      refine (push_any w.heap.size _ _ x d _ (HO.out.below HBA.out) HL.out (by simp; omega) hwk).mono ?_
      rintro e w' ⟨v, rfl, o, bl⟩
      rw [← HF.out] at o
      have HO' := Lib.hid o
      have HB' := Lib.hid (below_two' (below_two' HB.out (HBA.out.mono hsz)) bl)
      clear o bl HO HB HBA HF HL
      go_wp2
      go_roundw
      case rel => exact ⟨k + 1, by omega, by go_num, HO'.out, HB'.out⟩
      case measure => simp [intOf]; omega
    · have hkn : k = n := by omega
      subst hkn
      have ho : Own 2 wr w.heap.size u3 (fieldBits fs) := by have h := hown; rwa [List.take_of_length_le (by rw [HN.out]; exact Nat.le_refl _)] at h
      have HO := Lib.hid ho
      have HB := Lib.hid hbel
      clear ho hown hbel
      go_wp2
      go_ret
      exact ⟨_, rfl, HO.out, HB.out⟩
/-- The five fields of a state in a new block. -/
theorem fields5_any (t m r s k : Int) (w : World) (b T : Nat) (hb : b = w.heap.size) :
    Calls Try.prog 151 #[.slice (some ⟨b, 0, none⟩) 5 5] (w.alloc (.cells #[.int .i64 t, .int .i64 16, .int .i64 m, .int .i64 4, .int .i64 r, .int .i64 4, .int .i64 s, .int .i64 8, .int .i64 k, .int .i64 32] T))
      (Makes 2 (w.alloc (.cells #[.int .i64 t, .int .i64 16, .int .i64 m, .int .i64 4, .int .i64 r, .int .i64 4, .int .i64 s, .int .i64 8, .int .i64 k, .int .i64 32] T)) (stateBits t m r s k)) := by
  subst hb
  have h := bitsOfFields_any w.heap.size 5 [(t, 16), (m, 4), (r, 4), (s, 8), (k, 32)] (w.alloc (.cells #[.int .i64 t, .int .i64 16, .int .i64 m, .int .i64 4, .int .i64 r, .int .i64 4, .int .i64 s, .int .i64 8, .int .i64 k, .int .i64 32] T)) (by simp) (by
    intro f hf
    simp only [List.mem_cons, List.mem_nil_iff, or_false] at hf
    rcases hf with rfl | rfl | rfl | rfl | rfl <;> simp) (by simp) (by
    intro i hi
    have hc : ∀ j, (w.alloc (.cells #[.int .i64 t, .int .i64 16, .int .i64 m, .int .i64 4, .int .i64 r, .int .i64 4, .int .i64 s, .int .i64 8, .int .i64 k, .int .i64 32] T)).cell? ⟨w.heap.size, j, none⟩ = (#[.int .i64 t, .int .i64 16, .int .i64 m, .int .i64 4, .int .i64 r, .int .i64 4, .int .i64 s, .int .i64 8, .int .i64 k, .int .i64 32] : Array Value)[j]? := fun j => World.cell?_alloc_at _ _ _ _ rfl
    rw [hc, hc]
    match i, hi with
    | 0, _ => exact ⟨rfl, rfl⟩
    | 1, _ => exact ⟨rfl, rfl⟩
    | 2, _ => exact ⟨rfl, rfl⟩
    | 3, _ => exact ⟨rfl, rfl⟩
    | 4, _ => exact ⟨rfl, rfl⟩)
  have e : fieldBits [(t, 16), (m, 4), (r, 4), (s, 8), (k, 32)] = stateBits t m r s k := by simp [fieldBits, stateBits]
  rw [e] at h
  exact h
theorem bitsOfState_any (t m r s k : Int) (w : World) : Calls Try.prog 122 #[.agg #[.int .i64 t, .int .i64 m, .int .i64 r, .int .i64 s, .int .i64 k]] w (Makes 2 w (stateBits t m r s k)) := by
  go_enter Try.func122, Try.ntmps122
  go_wp2_with fail
  refine (fields5_any t m r s k _ _ _ (by simp)).mono ?_
  rintro e w2 ⟨v, rfl, o2, b2⟩
  have O2 := Lib.hid (o2.more (base' := w.heap.size) (by simp; omega))
  have B2 := Lib.hid (below_box2 b2)
  clear o2 b2
  go_wp2
  go_ret
  exact ⟨_, rfl, O2.out, B2.out⟩
end

section
open Go.RowKit

theorem Rd.rest {w : World} {ao : Option Addr} {n : Nat} {xs : List Int} (h : Rd w ao n xs) {a : Nat} (ha : a ≤ n) : Rd w (Option.map (fun x => x.add a) ao) (n - a) (xs.drop a) := by
  have h1 := h.slice (a := a) (k := n - a) (by omega)
  rwa [List.take_of_length_le (by rw [List.length_drop, h.len]; exact Nat.le_refl _)] at h1
theorem Rd.first {w : World} {ao : Option Addr} {n : Nat} {xs : List Int} (h : Rd w ao n xs) {a : Nat} (ha : a ≤ n) : Rd w ao a (xs.take a) := by
  have hl := h.len
  refine ⟨by rw [List.length_take]; omega, fun h0 => ?_⟩
  obtain ⟨b, off, rfl, hc⟩ := h.here (by omega)
  exact ⟨b, off, rfl, fun i hi => by rw [hc i (by omega)]; simp [List.getD, hi]⟩
theorem takeNumber_any (ao : Option Addr) (n cap : Nat) (xs : List Int) (wd : Nat) (W : Int) (w : World) (hW : (wd : Int) = W) (hr : Rd w ao n xs) (hcap : n ≤ cap) (_hcap2 : cap ≤ 9223372036854775807) (hlt : wd < n) (hw : wd ≤ 40) (hbits : ∀ x ∈ xs, 0 ≤ x ∧ x ≤ 1) :
    Calls Try.prog 162 #[.slice ao n cap, .int .i64 W] w fun e w' => e = .returned (.tuple #[.int .i64 (numOf (xs.take wd)), .slice (Option.map (fun x => x.add wd) ao) (n - wd) (cap - wd)]) ∧ ∃ q, w' = w.drewN q := by
  subst hW
  obtain ⟨v, hv⟩ : ∃ v, numOf (xs.take wd) = v := ⟨_, rfl⟩
  have hf := fun q : Nat => numberOf_any ao wd cap (xs.take wd) (w.drewN q) ((hr.first (a := wd) (by omega)).keep (w' := w.drewN q) fun _ _ _ => rfl) hw fun x hx => hbits x (List.mem_of_mem_take hx)
  rw [hv] at hf ⊢
  have HF := Lib.hid hf; clear hf hv hbits hr
  go_enter Try.func162, Try.ntmps162
  go_wp2
  go_quiet ((go_at_call 96; exact quiet_left (HF.out _)))
  go_wp2
  go_ret2
  exact ⟨rfl, _, rfl⟩

/-- What StateFromBits answers. -/
def stateFrom (xs : List Int) : Int × Int × Int × Int × Int × Int :=
  if isBits xs = false ∨ xs.length ≠ 64 then (0, 0, 0, 0, 0, 2) else (numIn xs 0 16, numIn xs 16 4, numIn xs 20 4, numIn xs 24 8, numIn xs 32 32, 0)
theorem sf_len {xs : List Int} (h : xs.length ≠ 64) : stateFrom xs = (0, 0, 0, 0, 0, 2) := by unfold stateFrom; rw [if_pos (.inr h)]
theorem sf_bits {xs : List Int} (h : isBits xs = false) : stateFrom xs = (0, 0, 0, 0, 0, 2) := by unfold stateFrom; rw [if_pos (.inl h)]
theorem sf_0 {xs : List Int} (h : isBits xs = true) (hl : xs.length = 64) : stateFrom xs = (numIn xs 0 16, numIn xs 16 4, numIn xs 20 4, numIn xs 24 8, numIn xs 32 32, 0) := by unfold stateFrom; rw [if_neg (by simp [h, hl])]
def Taken (w : World) (x : Int) (a : Option Addr) (n c : Nat) (e : Ending) (w' : World) : Prop := e = .returned (.tuple #[.int .i64 x, .slice a n c]) ∧ ∃ q, w' = w.drewN q
/-- The five numbers taken one behind the other. -/
theorem takes {ao : Option Addr} {cap : Nat} {xs : List Int} {w : World} (hr : Rd w ao 64 xs) (hcap : 64 ≤ cap) (hcap2 : cap ≤ 9223372036854775807) (hbits : ∀ x ∈ xs, 0 ≤ x ∧ x ≤ 1) :
    ∃ a1 c1 a2 c2 a3 c3 a4 c4, (∀ W, Below w.heap.size w W → Calls Try.prog 162 #[.slice ao 64 cap, .int .i64 16] W (Taken W (numIn xs 0 16) a1 48 c1)) ∧
      (∀ W, Below w.heap.size w W → Calls Try.prog 162 #[.slice a1 48 c1, .int .i64 4] W (Taken W (numIn xs 16 4) a2 44 c2)) ∧
      (∀ W, Below w.heap.size w W → Calls Try.prog 162 #[.slice a2 44 c2, .int .i64 4] W (Taken W (numIn xs 20 4) a3 40 c3)) ∧
      (∀ W, Below w.heap.size w W → Calls Try.prog 162 #[.slice a3 40 c3, .int .i64 8] W (Taken W (numIn xs 24 8) a4 32 c4)) ∧
      ∀ W, Below w.heap.size w W → Calls Try.prog 96 #[.slice a4 32 c4] W fun e w' => e = .returned (.int .i64 (numIn xs 32 32)) ∧ W = w' := by
  have hd : ∀ a, ∀ x ∈ xs.drop a, 0 ≤ x ∧ x ≤ 1 := fun a x hx => hbits x (List.mem_of_mem_drop hx)
  obtain ⟨a1, h1⟩ : ∃ a, Option.map (fun x : Addr => x.add 16) ao = a := ⟨_, rfl⟩
  obtain ⟨a2, h2⟩ : ∃ a, Option.map (fun x : Addr => x.add 4) a1 = a := ⟨_, rfl⟩
  obtain ⟨a3, h3⟩ : ∃ a, Option.map (fun x : Addr => x.add 4) a2 = a := ⟨_, rfl⟩
  obtain ⟨a4, h4⟩ : ∃ a, Option.map (fun x : Addr => x.add 8) a3 = a := ⟨_, rfl⟩
  have r1 := hr.rest (a := 16) (by omega)
  rw [h1] at r1
  have r2 := r1.rest (a := 4) (by omega)
  rw [h2, List.drop_drop] at r2
  have r3 := r2.rest (a := 4) (by omega)
  rw [h3, List.drop_drop] at r3
  have r4 := r3.rest (a := 8) (by omega)
  rw [h4, List.drop_drop] at r4
  refine ⟨a1, cap - 16, a2, cap - 20, a3, cap - 24, a4, cap - 32, ?_, ?_, ?_, ?_, ?_⟩
  · intro W hW
    have h := takeNumber_any ao 64 cap xs 16 16 W rfl (hr.below hW) hcap hcap2 (by omega) (by omega) hbits
    rwa [h1] at h
  · intro W hW
    have h := takeNumber_any a1 48 (cap - 16) (xs.drop 16) 4 4 W rfl (r1.below hW) (by omega) (by omega) (by omega) (by omega) (hd _)
    rwa [h2, show cap - 16 - 4 = cap - 20 from by omega] at h
  · intro W hW
    have h := takeNumber_any a2 44 (cap - 20) (xs.drop 20) 4 4 W rfl (r2.below hW) (by omega) (by omega) (by omega) (by omega) (hd _)
    rwa [h3, show cap - 20 - 4 = cap - 24 from by omega] at h
  · intro W hW
    have h := takeNumber_any a3 40 (cap - 24) (xs.drop 24) 8 8 W rfl (r3.below hW) (by omega) (by omega) (by omega) (by omega) (hd _)
    rwa [h4, show cap - 24 - 8 = cap - 32 from by omega] at h
  · intro W hW
    have h := numberOf_any a4 32 (cap - 32) (xs.drop 32) W (r4.below hW) (by omega) (hd _)
    have e : numOf (xs.drop 32) = numIn xs 32 32 := by unfold numIn; rw [List.take_of_length_le (by rw [List.length_drop, hr.len]; omega)]
    rwa [e] at h
set_option maxHeartbeats 1000000 in
theorem stateFromBits_any (ao : Option Addr) (cap : Nat) (xs : List Int) (w : World) (hr : Rd w ao xs.length xs) (_hn : xs.length ≤ 1048576) (hcap : xs.length ≤ cap) (hcap2 : cap ≤ 9223372036854775807) :
    Calls Try.prog 161 #[.slice ao xs.length cap] w (GivesState2 w (stateFrom xs)) := by
  by_cases hl : xs.length = 64
  · rcases hb : isBits xs with _ | _
    · rw [sf_bits hb]
      have HB := Lib.hid hb; clear hb
      have hr0 := hr.below (show Below w.heap.size w (w.alloc (.cells #[.int .i64 0, .int .i64 0, .int .i64 0, .int .i64 0, .int .i64 0] 25)) from (Below.refl _ _).alloc (Nat.le_refl _) _)
      have hi := isBits_any ao xs.length cap xs _ hr0 (by omega)
      rw [HB.out] at hi
      rw [hl] at hi ⊢
      have HI := Lib.hid hi
      clear hl _hn hcap hr hr0 hi
      go_enter Try.func161, Try.ntmps161
      go_wp2_with (go_at_call 95; refine (HI.out).mono ?_; rintro e w' ⟨rfl, rfl⟩)
      exact bodyPost_ret (v := .tuple #[.agg #[.int .i64 0, .int .i64 0, .int .i64 0, .int .i64 0, .int .i64 0], .int .i64 2]) (by simp [results, Try.results161, go_sem]) rfl ⟨rfl, (Below.refl _ _).alloc (Nat.le_refl _) _⟩
    · rw [sf_0 hb hl]
      have hbits := (isBits_iff.1 hb).2
      have HB := Lib.hid hb; clear hb
      have hr0 := hr.below (show Below w.heap.size w (w.alloc (.cells #[.int .i64 0, .int .i64 0, .int .i64 0, .int .i64 0, .int .i64 0] 25)) from (Below.refl _ _).alloc (Nat.le_refl _) _)
      have hi := isBits_any ao xs.length cap xs _ hr0 (by omega)
      rw [HB.out] at hi
      rw [hl] at hi hcap hr ⊢
      obtain ⟨a1, c1, a2, c2, a3, c3, a4, c4, t1, t2, t3, t4, t5⟩ := takes hr hcap hcap2 hbits
      generalize numIn xs 0 16 = y0 at t1 ⊢
      generalize numIn xs 16 4 = y1 at t2 ⊢
      generalize numIn xs 20 4 = y2 at t3 ⊢
      generalize numIn xs 24 8 = y3 at t4 ⊢
      generalize numIn xs 32 32 = y4 at t5 ⊢
      have HI := Lib.hid hi
      have T1 := Lib.hid t1
      have T2 := Lib.hid t2
      have T3 := Lib.hid t3
      have T4 := Lib.hid t4
      have T5 := Lib.hid t5
      clear hl _hn hcap hr hr0 hi t1 t2 t3 t4 t5 hbits HB
      go_enter Try.func161, Try.ntmps161
      go_wp2_with (first
        | (go_at_call 95; refine (HI.out).mono ?_; rintro e w' ⟨rfl, rfl⟩)
        | (go_at_call 162; fail))
      obtain ⟨R0, S0⟩ := state_new2 (Below.refl ((w.alloc (.cells #[.int .i64 0, .int .i64 0, .int .i64 0, .int .i64 0, .int .i64 0] 25)).alloc (.cells #[.int .i64 0, .int .i64 0, .int .i64 0, .int .i64 0, .int .i64 0] 25)).heap.size ((w.alloc (.cells #[.int .i64 0, .int .i64 0, .int .i64 0, .int .i64 0, .int .i64 0] 25)).alloc (.cells #[.int .i64 0, .int .i64 0, .int .i64 0, .int .i64 0, .int .i64 0] 25)))
      have B0 : Below w.heap.size w ((w.alloc (.cells #[.int .i64 0, .int .i64 0, .int .i64 0, .int .i64 0, .int .i64 0] 25)).alloc (.cells #[.int .i64 0, .int .i64 0, .int .i64 0, .int .i64 0, .int .i64 0] 25)) := below_box2 (Below.refl _ _)
      generalize ((w.alloc (.cells #[.int .i64 0, .int .i64 0, .int .i64 0, .int .i64 0, .int .i64 0] 25)).alloc (.cells #[.int .i64 0, .int .i64 0, .int .i64 0, .int .i64 0, .int .i64 0] 25)) = w0 at R0 S0 B0 ⊢
      refine (T1.out _ B0).mono ?_
      rintro e v0 ⟨rfl, q0, rfl⟩
      replace R0 : StateAt 25 (w0.drewN q0) w.heap.size 0 0 0 0 0 := R0
      replace S0 : StateAt 25 (w0.drewN q0) (w.heap.size + 1) 0 0 0 0 0 := S0
      have C0 : Below w.heap.size w (w0.drewN q0) := below_drewN' B0 _
      have f0 := S0.f 0
      have c0 := S0.c0
      go_upto_region 6 with fail
      clear f0 c0
      have S1 := S0.set0 y0
      have R1 := StateAt.other (c := w.heap.size + 1) (i := 0) (v := .int .i64 y0) R0 (by omega)
      have B1 := below_two' C0 ((Below.refl w.heap.size (w0.drewN q0)).setCell (p := ⟨w.heap.size + 1, 0, none⟩) (by simp) (.int .i64 y0))
      generalize World.setCell (w0.drewN q0) ⟨w.heap.size + 1, 0, none⟩ (.int .i64 y0) = w1 at S1 R1 B1 ⊢
      clear S0 R0 B0 C0 T1
      go_wp2_with fail
      refine (T2.out _ B1).mono ?_
      rintro e v1 ⟨rfl, q1, rfl⟩
      replace R1 : StateAt 25 (w1.drewN q1) w.heap.size 0 0 0 0 0 := R1
      replace S1 : StateAt 25 (w1.drewN q1) (w.heap.size + 1) y0 0 0 0 0 := S1
      have C1 : Below w.heap.size w (w1.drewN q1) := below_drewN' B1 _
      have f1 := S1.f 1
      have c1 := S1.c1
      go_upto_region 7 with fail
      clear f1 c1
      have S2 := S1.set1 y1
      have R2 := StateAt.other (c := w.heap.size + 1) (i := 1) (v := .int .i64 y1) R1 (by omega)
      have B2 := below_two' C1 ((Below.refl w.heap.size (w1.drewN q1)).setCell (p := ⟨w.heap.size + 1, 1, none⟩) (by simp) (.int .i64 y1))
      generalize World.setCell (w1.drewN q1) ⟨w.heap.size + 1, 1, none⟩ (.int .i64 y1) = w2 at S2 R2 B2 ⊢
      clear S1 R1 B1 C1 T2
      go_wp2_with fail
      refine (T3.out _ B2).mono ?_
      rintro e v2 ⟨rfl, q2, rfl⟩
      replace R2 : StateAt 25 (w2.drewN q2) w.heap.size 0 0 0 0 0 := R2
      replace S2 : StateAt 25 (w2.drewN q2) (w.heap.size + 1) y0 y1 0 0 0 := S2
      have C2 : Below w.heap.size w (w2.drewN q2) := below_drewN' B2 _
      have f2 := S2.f 2
      have c2 := S2.c2
      go_upto_region 8 with fail
      clear f2 c2
      have S3 := S2.set2 y2
      have R3 := StateAt.other (c := w.heap.size + 1) (i := 2) (v := .int .i64 y2) R2 (by omega)
      have B3 := below_two' C2 ((Below.refl w.heap.size (w2.drewN q2)).setCell (p := ⟨w.heap.size + 1, 2, none⟩) (by simp) (.int .i64 y2))
      generalize World.setCell (w2.drewN q2) ⟨w.heap.size + 1, 2, none⟩ (.int .i64 y2) = w3 at S3 R3 B3 ⊢
      clear S2 R2 B2 C2 T3
      go_wp2_with fail
      refine (T4.out _ B3).mono ?_
      rintro e v3 ⟨rfl, q3, rfl⟩
      replace R3 : StateAt 25 (w3.drewN q3) w.heap.size 0 0 0 0 0 := R3
      replace S3 : StateAt 25 (w3.drewN q3) (w.heap.size + 1) y0 y1 y2 0 0 := S3
      have C3 : Below w.heap.size w (w3.drewN q3) := below_drewN' B3 _
      have f3 := S3.f 3
      have c3 := S3.c3
      go_upto_region 9 with fail
      clear f3 c3
      have S4 := S3.set3 y3
      have R4 := StateAt.other (c := w.heap.size + 1) (i := 3) (v := .int .i64 y3) R3 (by omega)
      have B4 := below_two' C3 ((Below.refl w.heap.size (w3.drewN q3)).setCell (p := ⟨w.heap.size + 1, 3, none⟩) (by simp) (.int .i64 y3))
      generalize World.setCell (w3.drewN q3) ⟨w.heap.size + 1, 3, none⟩ (.int .i64 y3) = w4 at S4 R4 B4 ⊢
      clear S3 R3 B3 C3 T4
      go_wp2_with fail
      refine (T5.out _ B4).mono ?_
      rintro e v4 ⟨rfl, rfl⟩
      replace R4 : StateAt 25 w4 w.heap.size 0 0 0 0 0 := R4
      replace S4 : StateAt 25 w4 (w.heap.size + 1) y0 y1 y2 y3 0 := S4
      have C4 : Below w.heap.size w w4 := B4
      have f4 := S4.f 4
      have c4 := S4.c4
      go_upto_region 10 with fail
      clear f4 c4
      have S5 := S4.set4 y4
      have R5 := StateAt.other (c := w.heap.size + 1) (i := 4) (v := .int .i64 y4) R4 (by omega)
      have B5 := below_two' C4 ((Below.refl w.heap.size w4).setCell (p := ⟨w.heap.size + 1, 4, none⟩) (by simp) (.int .i64 y4))
      generalize World.setCell w4 ⟨w.heap.size + 1, 4, none⟩ (.int .i64 y4) = w5 at S5 R5 B5 ⊢
      clear S4 R4 B4 C4 T5
      have c0 := S5.c0
      have c1 := S5.c1
      have c2 := S5.c2
      have c3 := S5.c3
      have c4 := S5.c4
      have d0 := R5.c0
      have d1 := R5.c1
      have d2 := R5.c2
      have d3 := R5.c3
      have d4 := R5.c4
      have f0 := R5.f 0
      have f1 := R5.f 1
      have f2 := R5.f 2
      have f3 := R5.f 3
      have f4 := R5.f 4
      go_wp2_with fail
      clear c0 c1 c2 c3 c4 d0 d1 d2 d3 d4 f0 f1 f2 f3 f4
      change bodyPost _ _ _ _ _ (setFive w5 w.heap.size y0 y1 y2 y3 y4)
      have SF := StateAt.five R5 y0 y1 y2 y3 y4
      have BF := below_two' B5 (below_five (B := w.heap.size) (w := w5) (b := w.heap.size) (by omega) y0 y1 y2 y3 y4)
      generalize setFive w5 w.heap.size y0 y1 y2 y3 y4 = wz at SF BF ⊢
      have e0 := SF.c0
      have e1 := SF.c1
      have e2 := SF.c2
      have e3 := SF.c3
      have e4 := SF.c4
      exact bodyPost_ret (v := .tuple #[.agg #[.int .i64 y0, .int .i64 y1, .int .i64 y2, .int .i64 y3, .int .i64 y4], .int .i64 0]) (by simp [results, Try.results161, go_sem, e0, e1, e2, e3, e4]) rfl ⟨rfl, BF⟩
  · rw [sf_len hl]
    have h1 : ((xs.length : Int) != 64) = true := by simp; omega
    clear hr
    go_enter Try.func161, Try.ntmps161
    go_wp2_with fail
    exact bodyPost_ret (v := .tuple #[.agg #[.int .i64 0, .int .i64 0, .int .i64 0, .int .i64 0, .int .i64 0], .int .i64 2]) (by simp [results, Try.results161, go_sem]) rfl ⟨rfl, (Below.refl _ _).alloc (Nat.le_refl _) _⟩
theorem sNum (ao : Option Addr) (n cap : Nat) (xs : List Int) (a wd : Nat) (A B : Int) (w : World) (hA : (a : Int) = A) (hB : (wd : Int) = B) (hr : Rd w ao n xs) (hn : n ≤ 4294967296) (haw : a + wd ≤ n) (hwd : wd ≤ 40) (hbits : ∀ x ∈ xs, 0 ≤ x ∧ x ≤ 1) :
    Calls Try.prog 154 #[.slice ao n cap, .int .i64 A, .int .i64 B] w fun e w' => e = .returned (.int .i64 (numIn xs a wd)) ∧ w = w' := by
  subst hA; subst hB; exact l01Number_any ao n cap xs a wd w hr hn haw hwd hbits
theorem l04State_any (ao : Option Addr) (cap : Nat) (xs : List Int) (w : World) (hr : Rd w ao 64 xs) (hbits : ∀ x ∈ xs, 0 ≤ x ∧ x ≤ 1) :
    Calls Try.prog 156 #[.slice ao 64 cap] w (GivesState w (numIn xs 0 16) (numIn xs 16 4) (numIn xs 20 4) (numIn xs 24 8) (numIn xs 32 32)) := by
  have hr0 := hr.below (show Below w.heap.size w (w.alloc (.cells #[.int .i64 0, .int .i64 0, .int .i64 0, .int .i64 0, .int .i64 0] 25)) from (Below.refl _ _).alloc (Nat.le_refl _) _)
  have t1 := sNum ao 64 cap xs 0 16 0 16 _ rfl rfl hr0 (by omega) (by omega) (by omega) hbits
  have t2 := sNum ao 64 cap xs 16 4 16 4 _ rfl rfl hr0 (by omega) (by omega) (by omega) hbits
  have t3 := sNum ao 64 cap xs 20 4 20 4 _ rfl rfl hr0 (by omega) (by omega) (by omega) hbits
  have t4 := sNum ao 64 cap xs 24 8 24 8 _ rfl rfl hr0 (by omega) (by omega) (by omega) hbits
  have t5 := sNum ao 64 cap xs 32 32 32 32 _ rfl rfl hr0 (by omega) (by omega) (by omega) hbits
  generalize numIn xs 0 16 = y0 at t1 ⊢
  generalize numIn xs 16 4 = y1 at t2 ⊢
  generalize numIn xs 20 4 = y2 at t3 ⊢
  generalize numIn xs 24 8 = y3 at t4 ⊢
  generalize numIn xs 32 32 = y4 at t5 ⊢
  have T1 := Lib.hid t1
  have T2 := Lib.hid t2
  have T3 := Lib.hid t3
  have T4 := Lib.hid t4
  have T5 := Lib.hid t5
  clear t1 t2 t3 t4 t5 hr hr0 hbits
  go_enter Try.func156, Try.ntmps156
  go_wp2_with fail
  refine (T1.out).mono ?_
  rintro e w1 ⟨rfl, rfl⟩
  go_wp2_with fail
  refine (T2.out).mono ?_
  rintro e w1 ⟨rfl, rfl⟩
  go_wp2_with fail
  refine (T3.out).mono ?_
  rintro e w1 ⟨rfl, rfl⟩
  go_wp2_with fail
  refine (T4.out).mono ?_
  rintro e w1 ⟨rfl, rfl⟩
  go_wp2_with fail
  refine (T5.out).mono ?_
  rintro e w1 ⟨rfl, rfl⟩
  go_wp2_with fail
  exact bodyPost_ret (v := .agg #[.int .i64 y0, .int .i64 y1, .int .i64 y2, .int .i64 y3, .int .i64 y4]) (by simp [results, Try.results156, go_sem]) rfl ⟨rfl, (Below.refl _ _).alloc (Nat.le_refl _) _⟩
end

section
open Go.RowKit

/-- In how many bits two states differ. -/
def bitDist (t m r s k t' m' r' s' k' : Int) : Nat := (diffTo (stateBits t m r s k) (stateBits t' m' r' s' k') 64).length
/-- What StateDistance answers. -/
def distOf (t m r s k t' m' r' s' k' : Int) : Int × Int := if isState t m r s k = false ∨ isState t' m' r' s' k' = false then (0, 1) else ((bitDist t m r s k t' m' r' s' k' : Int), 0)
theorem di_1 {t m r s k t' m' r' s' k' : Int} (h : isState t m r s k = false) : distOf t m r s k t' m' r' s' k' = (0, 1) := by simp [distOf, h]
theorem di_2 {t m r s k t' m' r' s' k' : Int} (h : isState t' m' r' s' k' = false) : distOf t m r s k t' m' r' s' k' = (0, 1) := by simp [distOf, h]
theorem di_0 {t m r s k t' m' r' s' k' : Int} (h : isState t m r s k = true) (h' : isState t' m' r' s' k' = true) : distOf t m r s k t' m' r' s' k' = ((bitDist t m r s k t' m' r' s' k' : Int), 0) := by simp [distOf, h, h']
theorem bitDist_le (t m r s k t' m' r' s' k' : Int) : bitDist t m r s k t' m' r' s' k' ≤ 64 := diffTo_len _ _ _
theorem isBits_state (t m r s k : Int) : isBits (stateBits t m r s k) = true := isBits_iff.2 ⟨by rw [stateBits_len]; omega, stateBits_bits t m r s k⟩
theorem differing_state (t m r s k t' m' r' s' k' : Int) : differingBits (stateBits t m r s k) (stateBits t' m' r' s' k') = (diffTo (stateBits t m r s k) (stateBits t' m' r' s' k') 64, 0) := by
  unfold differingBits
  simp [isBits_state, stateBits_len]
end
end Go.Proofs.Ytbdfnkhmnglpbaa
