/-
  Chapter 4: states in memory; two states compared; valid states on both sides.
-/
import Derived.Test.YtkidhilipeoliaaDoorSt2
import Derived.Test.YtkidhilipeoliaaDoorOne
import Derived.Deep.QuietTactic
import Derived.Laws.StructEq
namespace Go.Proofs.YtkidhilipeoliaaDoor
open Go.RowKit

/-- Block b holds a state. -/
def StateAt (T : Nat) (w : World) (b : Nat) (t m r s k : Int) : Prop := w.heap[b]? = some (.cells #[.int .i64 t, .int .i64 m, .int .i64 r, .int .i64 s, .int .i64 k] T (0, 0))
/-- A state handed back, all old memory as it was. -/
def GivesState (w : World) (t m r s k : Int) (e : Ending) (w' : World) : Prop := e = .returned (.agg #[.int .i64 t, .int .i64 m, .int .i64 r, .int .i64 s, .int .i64 k]) ∧ Below w.heap.size w w'
section
variable {T b p : Nat} {w w' : World} {t m r s k : Int}
theorem StateAt.c0 (h : StateAt T w b t m r s k) : w.cell? ⟨b, 0, none⟩ = some (.int .i64 t) := cell_of_row w b 0 _ _ (0, 0) h
theorem StateAt.c1 (h : StateAt T w b t m r s k) : w.cell? ⟨b, 1, none⟩ = some (.int .i64 m) := cell_of_row w b 1 _ _ (0, 0) h
theorem StateAt.c2 (h : StateAt T w b t m r s k) : w.cell? ⟨b, 2, none⟩ = some (.int .i64 r) := cell_of_row w b 2 _ _ (0, 0) h
theorem StateAt.c3 (h : StateAt T w b t m r s k) : w.cell? ⟨b, 3, none⟩ = some (.int .i64 s) := cell_of_row w b 3 _ _ (0, 0) h
theorem StateAt.c4 (h : StateAt T w b t m r s k) : w.cell? ⟨b, 4, none⟩ = some (.int .i64 k) := cell_of_row w b 4 _ _ (0, 0) h
theorem StateAt.f (h : StateAt T w b t m r s k) (i : Nat) : w.frozen? ⟨b, i, none⟩ = false := frozen_of_row w b i _ _ h
theorem StateAt.lt (h : StateAt T w b t m r s k) : b < w.heap.size := (Array.getElem?_eq_some_iff.1 h).1
theorem StateAt.grown {g : Option Nat} (h : StateAt T w b t m r s k) (hg : w.grownBy w' g) (hne : some b ≠ g) : StateAt T w' b t m r s k := (hg.block b h.lt hne).trans h
theorem StateAt.below {B : Nat} (h : StateAt T w b t m r s k) (hb : Below B w w') (hlt : b < B) : StateAt T w' b t m r s k := (hb.block b hlt).trans h
theorem StateAt.new (w : World) : StateAt T (w.alloc (.cells #[.int .i64 t, .int .i64 m, .int .i64 r, .int .i64 s, .int .i64 k] T)) w.heap.size t m r s k := heap_alloc_new w _
theorem StateAt.set0 (h : StateAt T w b t m r s k) (z : Int) : StateAt T (w.setCell ⟨b, 0, none⟩ (.int .i64 z)) b z m r s k := by
  have := heap_setCell_same w b 0 _ _ (.int .i64 z) h
  simpa [StateAt] using this
theorem StateAt.set1 (h : StateAt T w b t m r s k) (z : Int) : StateAt T (w.setCell ⟨b, 1, none⟩ (.int .i64 z)) b t z r s k := by
  have := heap_setCell_same w b 1 _ _ (.int .i64 z) h
  simpa [StateAt] using this
theorem StateAt.set2 (h : StateAt T w b t m r s k) (z : Int) : StateAt T (w.setCell ⟨b, 2, none⟩ (.int .i64 z)) b t m z s k := by
  have := heap_setCell_same w b 2 _ _ (.int .i64 z) h
  simpa [StateAt] using this
theorem StateAt.set3 (h : StateAt T w b t m r s k) (z : Int) : StateAt T (w.setCell ⟨b, 3, none⟩ (.int .i64 z)) b t m r z k := by
  have := heap_setCell_same w b 3 _ _ (.int .i64 z) h
  simpa [StateAt] using this
theorem StateAt.set4 (h : StateAt T w b t m r s k) (z : Int) : StateAt T (w.setCell ⟨b, 4, none⟩ (.int .i64 z)) b t m r s z := by
  have := heap_setCell_same w b 4 _ _ (.int .i64 z) h
  simpa [StateAt] using this
theorem StateAt.other (h : StateAt T w b t m r s k) {c i : Nat} {v : Value} (hne : b ≠ c) : StateAt T (w.setCell ⟨c, i, none⟩ v) b t m r s k := (heap_setCell_other _ _ _ _ hne).trans h
end

/-! ### two states compared -/
theorem state_eql (t m r s k t' m' r' s' k' : Int) (w : World) : (binOp .eql 25 (.agg #[.int .i64 t, .int .i64 m, .int .i64 r, .int .i64 s, .int .i64 k]) (.agg #[.int .i64 t', .int .i64 m', .int .i64 r', .int .i64 s', .int .i64 k'])).run Tryd.prog w = .ok (.bool (decide (t = t' ∧ m = m' ∧ r = r' ∧ s = s' ∧ k = k'))) w := by
  rw [run_eql_struct]
  have h : (Op.equalIn 10000 25 (.agg #[.int .i64 t, .int .i64 m, .int .i64 r, .int .i64 s, .int .i64 k]) (.agg #[.int .i64 t', .int .i64 m', .int .i64 r', .int .i64 s', .int .i64 k'])).run Tryd.prog w = .ok (decide (t = t' ∧ m = m' ∧ r = r' ∧ s = s' ∧ k = k')) w := by
    rw [run_equalIn_agg w 9999 _ _ _ (by kernel_rfl) (by kernel_rfl)]
    have hp : Tryd.prog.stoodInHeld 2 = false := by kernel_rfl
    simp only [Program.fieldsOf, Tryd.underlying25, Op.eqFields]
    by_cases h1 : t = t' <;> by_cases h2 : m = m' <;> by_cases h3 : r = r' <;> by_cases h4 : s = s' <;> by_cases h5 : k = k' <;> simp [go_sem, h1, h2, h3, h4, h5]
  rw [h]; rfl

/-! ### what the laws do with states -/
/-- The struct that a call lays first reads as it was behind whatever leaves old memory alone. -/
theorem state_new {T : Nat} {w w' : World} {t m r s k : Int} (h : Below (w.alloc (.cells #[.int .i64 t, .int .i64 m, .int .i64 r, .int .i64 s, .int .i64 k] T)).heap.size (w.alloc (.cells #[.int .i64 t, .int .i64 m, .int .i64 r, .int .i64 s, .int .i64 k] T)) w') : StateAt T w' w.heap.size t m r s k :=
  (StateAt.new w).below h (by simp)
theorem below_box {w w' : World} {o : Obj} (h : Below (w.alloc o).heap.size (w.alloc o) w') : Below w.heap.size w w' := below_two ((Below.refl _ _).alloc (Nat.le_refl _) _) h
/-- The two structs that a call lays first. -/
theorem state_new2 {T U : Nat} {w w' : World} {t m r s k t' m' r' s' k' : Int} (h : Below ((w.alloc (.cells #[.int .i64 t, .int .i64 m, .int .i64 r, .int .i64 s, .int .i64 k] T)).alloc (.cells #[.int .i64 t', .int .i64 m', .int .i64 r', .int .i64 s', .int .i64 k'] U)).heap.size ((w.alloc (.cells #[.int .i64 t, .int .i64 m, .int .i64 r, .int .i64 s, .int .i64 k] T)).alloc (.cells #[.int .i64 t', .int .i64 m', .int .i64 r', .int .i64 s', .int .i64 k'] U)) w') :
    StateAt T w' w.heap.size t m r s k ∧ StateAt U w' (w.heap.size + 1) t' m' r' s' k' :=
  ⟨((StateAt.new w).below (B := (w.alloc (.cells #[.int .i64 t, .int .i64 m, .int .i64 r, .int .i64 s, .int .i64 k] T)).heap.size) ((Below.refl _ _).alloc (Nat.le_refl _) _) (by simp)).below h (by simp; omega), by
    have e : (w.alloc (.cells #[.int .i64 t, .int .i64 m, .int .i64 r, .int .i64 s, .int .i64 k] T)).heap.size = w.heap.size + 1 := by simp
    have := (StateAt.new (T := U) (t := t') (m := m') (r := r') (s := s') (k := k') (w.alloc (.cells #[.int .i64 t, .int .i64 m, .int .i64 r, .int .i64 s, .int .i64 k] T))).below h (by simp)
    rwa [e] at this⟩
theorem cells_two {T U : Nat} {w w' : World} {t m r s k t' m' r' s' k' : Int} (h : Below ((w.alloc (.cells #[.int .i64 t, .int .i64 m, .int .i64 r, .int .i64 s, .int .i64 k] T)).alloc (.cells #[.int .i64 t', .int .i64 m', .int .i64 r', .int .i64 s', .int .i64 k'] U)).heap.size ((w.alloc (.cells #[.int .i64 t, .int .i64 m, .int .i64 r, .int .i64 s, .int .i64 k] T)).alloc (.cells #[.int .i64 t', .int .i64 m', .int .i64 r', .int .i64 s', .int .i64 k'] U)) w') :
    w'.cell? ⟨w.heap.size, 0, none⟩ = some (.int .i64 t) ∧ w'.cell? ⟨w.heap.size, 1, none⟩ = some (.int .i64 m) ∧ w'.cell? ⟨w.heap.size, 2, none⟩ = some (.int .i64 r) ∧ w'.cell? ⟨w.heap.size, 3, none⟩ = some (.int .i64 s) ∧ w'.cell? ⟨w.heap.size, 4, none⟩ = some (.int .i64 k) ∧ w'.cell? ⟨w.heap.size + 1, 0, none⟩ = some (.int .i64 t') ∧ w'.cell? ⟨w.heap.size + 1, 1, none⟩ = some (.int .i64 m') ∧ w'.cell? ⟨w.heap.size + 1, 2, none⟩ = some (.int .i64 r') ∧ w'.cell? ⟨w.heap.size + 1, 3, none⟩ = some (.int .i64 s') ∧ w'.cell? ⟨w.heap.size + 1, 4, none⟩ = some (.int .i64 k') :=
  have ⟨h1, h2⟩ := state_new2 h
  ⟨h1.c0, h1.c1, h1.c2, h1.c3, h1.c4, h2.c0, h2.c1, h2.c2, h2.c3, h2.c4⟩
theorem below_box2 {w w' : World} {o u : Obj} (h : Below ((w.alloc o).alloc u).heap.size ((w.alloc o).alloc u) w') : Below w.heap.size w w' := below_box (below_box h)

/-! ### valid states -/
theorem and_mask16 (n : Int) : bits .and .i64 n 65535 = n % 65536 := by
  have h1 : (BitVec.ofInt 64 65535).toNat = 2 ^ 16 - 1 := by decide
  have key : (BitVec.ofInt 64 n &&& BitVec.ofInt 64 65535).toNat = (n % ((2 ^ 64 : Nat) : Int)).toNat % 2 ^ 16 := by
    rw [BitVec.toNat_and, BitVec.toNat_ofInt, h1, Nat.and_two_pow_sub_one_eq_mod]
  show IntKind.i64.wrap ((BitVec.ofInt 64 n &&& BitVec.ofInt 64 65535).toNat : Nat) = n % 65536
  rw [key, IntKind.wrap_i64]
  omega
theorem and_mask4 (n : Int) : bits .and .i64 n 15 = n % 16 := by
  have h1 : (BitVec.ofInt 64 15).toNat = 2 ^ 4 - 1 := by decide
  have key : (BitVec.ofInt 64 n &&& BitVec.ofInt 64 15).toNat = (n % ((2 ^ 64 : Nat) : Int)).toNat % 2 ^ 4 := by
    rw [BitVec.toNat_and, BitVec.toNat_ofInt, h1, Nat.and_two_pow_sub_one_eq_mod]
  show IntKind.i64.wrap ((BitVec.ofInt 64 n &&& BitVec.ofInt 64 15).toNat : Nat) = n % 16
  rw [key, IntKind.wrap_i64]
  omega
theorem and_mask8 (n : Int) : bits .and .i64 n 255 = n % 256 := by
  have h1 : (BitVec.ofInt 64 255).toNat = 2 ^ 8 - 1 := by decide
  have key : (BitVec.ofInt 64 n &&& BitVec.ofInt 64 255).toNat = (n % ((2 ^ 64 : Nat) : Int)).toNat % 2 ^ 8 := by
    rw [BitVec.toNat_and, BitVec.toNat_ofInt, h1, Nat.and_two_pow_sub_one_eq_mod]
  show IntKind.i64.wrap ((BitVec.ofInt 64 n &&& BitVec.ofInt 64 255).toNat : Nat) = n % 256
  rw [key, IntKind.wrap_i64]
  omega
theorem and_mask32 (n : Int) : bits .and .i64 n 4294967295 = n % 4294967296 := by
  have h1 : (BitVec.ofInt 64 4294967295).toNat = 2 ^ 32 - 1 := by decide
  have key : (BitVec.ofInt 64 n &&& BitVec.ofInt 64 4294967295).toNat = (n % ((2 ^ 64 : Nat) : Int)).toNat % 2 ^ 32 := by
    rw [BitVec.toNat_and, BitVec.toNat_ofInt, h1, Nat.and_two_pow_sub_one_eq_mod]
  show IntKind.i64.wrap ((BitVec.ofInt 64 n &&& BitVec.ofInt 64 4294967295).toNat : Nat) = n % 4294967296
  rw [key, IntKind.wrap_i64]
  omega
theorem masks_iff (t m r s k : Int) : decide (t = t % 65536 ∧ m = m % 16 ∧ r = r % 16 ∧ s = s % 256 ∧ k = k % 4294967296) = isState t m r s k := by
  rw [Bool.eq_iff_iff, isState_iff, decide_eq_true_eq]
  omega
theorem isState_any (t m r s k : Int) (w : World) : Calls Tryd.prog 17 #[.agg #[.int .i64 t, .int .i64 m, .int .i64 r, .int .i64 s, .int .i64 k]] w fun e w' => e = .returned (.bool (isState t m r s k)) ∧ Below w.heap.size w w' := by
  have he := fun w => state_eql t m r s k (t % 65536) (m % 16) (r % 16) (s % 256) (k % 4294967296) w
  rw [masks_iff] at he
  rw [← and_mask16 t, ← and_mask4 m, ← and_mask4 r, ← and_mask8 s, ← and_mask32 k] at he
  go_enter Tryd.func17, Tryd.ntmps17
  go_wp2
  go_ret
  exact ⟨rfl, (Below.refl _ _).alloc (Nat.le_refl _) _⟩
theorem l01In_any (x lo hi : Int) (w : World) : Calls Tryd.prog 37 #[.int .i64 x, .int .i64 lo, .int .i64 hi] w fun e w' => e = .returned (.bool (inRange lo hi x)) ∧ w = w' := by
  by_cases h0 : lo ≤ x
  · by_cases h1 : x ≤ hi
    · rw [show inRange lo hi x = true from by simp [inRange, h0, h1]]; exact l01In_yes x lo hi w h0 h1
    · rw [show inRange lo hi x = false from by simp [inRange, h1]]; exact l01In_no x lo hi w (.inr (by omega))
  · rw [show inRange lo hi x = false from by simp [inRange, h0]]; exact l01In_no x lo hi w (.inl (by omega))
theorem sIsState_any (t m r s k : Int) (w : World) : Calls Tryd.prog 18 #[.agg #[.int .i64 t, .int .i64 m, .int .i64 r, .int .i64 s, .int .i64 k]] w fun e w' => e = .returned (.bool (isState t m r s k)) ∧ Below w.heap.size w w' := by
  rcases h0 : inRange 0 65535 t with _ | _
  · rw [show isState t m r s k = false from by simp [isState, h0]]
    go_enter Tryd.func18, Tryd.ntmps18
    go_wp2_with (go_at_call 37; refine (l01In_any _ _ _ _).mono ?_; rintro e w' ⟨rfl, rfl⟩)
    go_ret
    exact ⟨rfl, (Below.refl _ _).alloc (Nat.le_refl _) _⟩
  rcases h1 : inRange 0 15 m with _ | _
  · rw [show isState t m r s k = false from by simp [isState, h1]]
    go_enter Tryd.func18, Tryd.ntmps18
    go_wp2_with (go_at_call 37; refine (l01In_any _ _ _ _).mono ?_; rintro e w' ⟨rfl, rfl⟩)
    go_ret
    exact ⟨rfl, (Below.refl _ _).alloc (Nat.le_refl _) _⟩
  rcases h2 : inRange 0 15 r with _ | _
  · rw [show isState t m r s k = false from by simp [isState, h2]]
    go_enter Tryd.func18, Tryd.ntmps18
    go_wp2_with (go_at_call 37; refine (l01In_any _ _ _ _).mono ?_; rintro e w' ⟨rfl, rfl⟩)
    go_ret
    exact ⟨rfl, (Below.refl _ _).alloc (Nat.le_refl _) _⟩
  rcases h3 : inRange 0 255 s with _ | _
  · rw [show isState t m r s k = false from by simp [isState, h3]]
    go_enter Tryd.func18, Tryd.ntmps18
    go_wp2_with (go_at_call 37; refine (l01In_any _ _ _ _).mono ?_; rintro e w' ⟨rfl, rfl⟩)
    go_ret
    exact ⟨rfl, (Below.refl _ _).alloc (Nat.le_refl _) _⟩
  have hk : isState t m r s k = inRange 0 4294967295 k := by simp [isState, h0, h1, h2, h3]
  rw [hk]; clear hk
  go_enter Tryd.func18, Tryd.ntmps18
  go_wp2_with (go_at_call 37; refine (l01In_any _ _ _ _).mono ?_; rintro e w' ⟨rfl, rfl⟩)
  go_ret
  exact ⟨rfl, (Below.refl _ _).alloc (Nat.le_refl _) _⟩
end Go.Proofs.YtkidhilipeoliaaDoor
