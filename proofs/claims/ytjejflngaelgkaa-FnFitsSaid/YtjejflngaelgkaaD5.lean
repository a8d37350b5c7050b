/-
  Chapter 8: the ways to write and to read the bytes of a descriptor, of the program.
-/
import Derived.Test.YtjejflngaelgkaaD2
import Derived.Laws.EntriesVeiled
namespace Go.Proofs.Ytjejflngaelgkaa
open Go.RowKit

/-- The table of descriptorLayout. -/
def layout8 : Array Value := #[.func (.func 73) #[] #[], .func (.func 74) #[] #[], .func (.func 75) #[] #[], .func (.func 76) #[] #[], .func (.func 77) #[] #[], .func (.func 78) #[] #[], .func (.func 79) #[] #[], .func (.func 80) #[] #[], .func (.func 81) #[] #[], .func (.func 83) #[] #[]]
theorem layout_any (w : World) : Calls Try.prog 48 #[] w fun e w' => e = .returned (.agg layout8) ∧ Below w.heap.size w w' := by
  go_enter Try.func48, Try.ntmps48
  go_wp2
  exact bodyPost_ret (v := .agg layout8) (by simp [results, Try.results48, go_sem, layout8]) rfl ⟨rfl, (Below.refl _ _).alloc (Nat.le_refl _) _⟩
theorem flagByte_any (c : Bool) (w : World) : Calls Try.prog 82 #[.bool c] w fun e w' => e = .returned (.int .i64 (flag8 c)) ∧ w = w' := by
  cases c with
  | true =>
    go_enter Try.func82, Try.ntmps82
    go_wp2
    go_ret
    exact ⟨rfl, rfl⟩
  | false =>
    go_enter Try.func82, Try.ntmps82
    go_wp2
    go_ret
    exact ⟨rfl, rfl⟩
theorem or_small : ∀ a, a < 4 → ∀ z, z < 33 → bits .or .i64 ((a : Nat) * 64 : Int) ((z : Nat) : Int) = (a : Int) * 64 + (z : Int) := by decide +kernel
theorem or_desc {a z : Int} (ha : 0 ≤ a ∧ a ≤ 3) (hz : 0 ≤ z ∧ z ≤ 32) : bits .or .i64 (a * 64) z = a * 64 + z := by
  have h := or_small a.toNat (by omega) z.toNat (by omega)
  rwa [Int.toNat_of_nonneg ha.1, Int.toNat_of_nonneg hz.1] at h
theorem and_mask6 (n : Int) : bits .and .i64 n 63 = n % 64 := by
  have h1 : (BitVec.ofInt 64 63).toNat = 2 ^ 6 - 1 := by decide
  have key : (BitVec.ofInt 64 n &&& BitVec.ofInt 64 63).toNat = (n % ((2 ^ 64 : Nat) : Int)).toNat % 2 ^ 6 := by
    rw [BitVec.toNat_and, BitVec.toNat_ofInt, h1, Nat.and_two_pow_sub_one_eq_mod]
  show IntKind.i64.wrap ((BitVec.ofInt 64 n &&& BitVec.ofInt 64 63).toNat : Nat) = n % 64
  rw [key, IntKind.wrap_i64]
  omega
section
variable (n a z u : Int) (c : Bool) (w : World)
theorem write1 : Calls Try.prog 73 #[.agg #[.int .i64 n, .int .i64 a, .int .i64 z, .int .i64 u, .bool c]] w fun e w' => e = .returned (.int .i64 (n)) ∧ Below w.heap.size w w' := by
  go_enter Try.func73, Try.ntmps73
  go_wp2
  go_ret
  exact ⟨rfl, (Below.refl _ _).alloc (Nat.le_refl _) _⟩
theorem write2 (ha : 0 ≤ a ∧ a ≤ 3) (hz : 0 ≤ z ∧ z ≤ 32) : Calls Try.prog 75 #[.agg #[.int .i64 n, .int .i64 a, .int .i64 z, .int .i64 u, .bool c]] w fun e w' => e = .returned (.int .i64 (a * 64 + z)) ∧ Below w.heap.size w w' := by
  have hw := or_desc ha hz
  have hw1 : IntKind.i64.wrap (a * 64) = a * 64 := by rw [IntKind.wrap_i64]; omega
  clear ha hz
  go_enter Try.func75, Try.ntmps75
  go_wp2
  go_ret
  exact ⟨rfl, (Below.refl _ _).alloc (Nat.le_refl _) _⟩
theorem write3 (hu : 0 ≤ u ∧ u ≤ 1000) : Calls Try.prog 77 #[.agg #[.int .i64 n, .int .i64 a, .int .i64 z, .int .i64 u, .bool c]] w fun e w' => e = .returned (.int .i64 (u / 256)) ∧ Below w.heap.size w w' := by
  have hw3 : IntKind.i64.wrap (u.tdiv 256) = u / 256 := by rw [Int.tdiv_eq_ediv_of_nonneg hu.1, IntKind.wrap_i64]; omega
  clear hu
  go_enter Try.func77, Try.ntmps77
  go_wp2
  go_ret
  exact ⟨rfl, (Below.refl _ _).alloc (Nat.le_refl _) _⟩
theorem write4 (hu : 0 ≤ u) : Calls Try.prog 79 #[.agg #[.int .i64 n, .int .i64 a, .int .i64 z, .int .i64 u, .bool c]] w fun e w' => e = .returned (.int .i64 (u % 256)) ∧ Below w.heap.size w w' := by
  have hw4 : u.tmod 256 = u % 256 := by rw [Int.tmod_eq_emod_of_nonneg hu]
  clear hu
  go_enter Try.func79, Try.ntmps79
  go_wp2
  go_ret
  exact ⟨rfl, (Below.refl _ _).alloc (Nat.le_refl _) _⟩
theorem write5 : Calls Try.prog 81 #[.agg #[.int .i64 n, .int .i64 a, .int .i64 z, .int .i64 u, .bool c]] w fun e w' => e = .returned (.int .i64 (flag8 c)) ∧ Below w.heap.size w w' := by
  go_enter Try.func81, Try.ntmps81
  go_wp2_with fail
  refine (flagByte_any _ _).mono ?_
  rintro e w1 ⟨rfl, rfl⟩
  go_wp2
  go_ret
  exact ⟨rfl, (Below.refl _ _).alloc (Nat.le_refl _) _⟩
end
section
variable {T : Nat} (b : Nat) (n a z u : Int) (c : Bool) (x : Int) (w : World)
theorem read1 (h : DescAt T w b n a z u c) : Calls Try.prog 74 #[.pointer (some ⟨b, 0, none⟩), .int .i64 x] w fun e w' => e = .returned (.tuple #[]) ∧ DescAt T w' b x a z u c ∧ w.grownBy w' (some b) := by
  have d0 := h.c0; have d1 := h.c1; have d2 := h.c2; have d3 := h.c3; have d4 := h.c4
  have f0 := h.f 0; have f1 := h.f 1; have f2 := h.f 2; have f3 := h.f 3; have f4 := h.f 4
  have HH := Lib.hid h; clear h
  go_enter Try.func74, Try.ntmps74
  go_wp2
  exact bodyPost_end (v := .tuple #[]) (by simp [results, Try.results74, go_sem]) rfl ⟨rfl, HH.out.set0 _, grown_setCell _ _ _ _⟩
theorem read2 (h : DescAt T w b n a z u c) : Calls Try.prog 76 #[.pointer (some ⟨b, 0, none⟩), .int .i64 x] w fun e w' => e = .returned (.tuple #[]) ∧ DescAt T w' b n (x / 64) (x % 64) u c ∧ w.grownBy w' (some b) := by
  have d0 := h.c0; have d1 := h.c1; have d2 := h.c2; have d3 := h.c3; have d4 := h.c4
  have f0 := h.f 0; have f1 := h.f 1; have f2 := h.f 2; have f3 := h.f 3; have f4 := h.f 4
  have HH := Lib.hid h; clear h
  have hm := and_mask6 x
  go_enter Try.func76, Try.ntmps76
  go_wp2
  exact bodyPost_end (v := .tuple #[]) (by simp [results, Try.results76, go_sem]) rfl ⟨rfl, (HH.out.set1 _).set2 _, grown_trans (grown_setCell _ _ _ _) (grown_setCell _ _ _ _)⟩
theorem read3 (h : DescAt T w b n a z u c) : Calls Try.prog 78 #[.pointer (some ⟨b, 0, none⟩), .int .i64 x] w fun e w' => e = .returned (.tuple #[]) ∧ DescAt T w' b n a z (IntKind.i64.wrap (x * 256)) c ∧ w.grownBy w' (some b) := by
  have d0 := h.c0; have d1 := h.c1; have d2 := h.c2; have d3 := h.c3; have d4 := h.c4
  have f0 := h.f 0; have f1 := h.f 1; have f2 := h.f 2; have f3 := h.f 3; have f4 := h.f 4
  have HH := Lib.hid h; clear h
  generalize hv : IntKind.i64.wrap (x * 256) = v
  go_enter Try.func78, Try.ntmps78
  go_wp2
  exact bodyPost_end (v := .tuple #[]) (by simp [results, Try.results78, go_sem]) rfl ⟨rfl, HH.out.set3 _, grown_setCell _ _ _ _⟩
theorem read4 (h : DescAt T w b n a z u c) : Calls Try.prog 80 #[.pointer (some ⟨b, 0, none⟩), .int .i64 x] w fun e w' => e = .returned (.tuple #[]) ∧ DescAt T w' b n a z (IntKind.i64.wrap (u + x)) c ∧ w.grownBy w' (some b) := by
  have d0 := h.c0; have d1 := h.c1; have d2 := h.c2; have d3 := h.c3; have d4 := h.c4
  have f0 := h.f 0; have f1 := h.f 1; have f2 := h.f 2; have f3 := h.f 3; have f4 := h.f 4
  have HH := Lib.hid h; clear h
  generalize hv : IntKind.i64.wrap (u + x) = v
  go_enter Try.func80, Try.ntmps80
  go_wp2
  exact bodyPost_end (v := .tuple #[]) (by simp [results, Try.results80, go_sem]) rfl ⟨rfl, HH.out.set3 _, grown_setCell _ _ _ _⟩
theorem read5 (h : DescAt T w b n a z u c) : Calls Try.prog 83 #[.pointer (some ⟨b, 0, none⟩), .int .i64 x] w fun e w' => e = .returned (.tuple #[]) ∧ DescAt T w' b n a z u (decide (x = 1)) ∧ w.grownBy w' (some b) := by
  have d0 := h.c0; have d1 := h.c1; have d2 := h.c2; have d3 := h.c3; have d4 := h.c4
  have f0 := h.f 0; have f1 := h.f 1; have f2 := h.f 2; have f3 := h.f 3; have f4 := h.f 4
  have HH := Lib.hid h; clear h
  go_enter Try.func83, Try.ntmps83
  go_wp2_with fail
  refine (flagByte_any _ _).mono ?_
  rintro e w1 ⟨rfl, rfl⟩
  go_wp2
  exact bodyPost_end (v := .tuple #[]) (by simp [results, Try.results83, go_sem]) rfl ⟨rfl, HH.out.set4 _, grown_setCell _ _ _ _⟩
end
end Go.Proofs.Ytjejflngaelgkaa
