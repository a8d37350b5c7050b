/-
  Chapter 8: the bytes of a descriptor, of the model.
  Chapter 8: the ways to write and to read the bytes of a descriptor, of the program.
  Chapter 8: DescriptorToBytes of the program.
  Chapter 8: DescriptorFromBytes of the program.
  Chapter 8: l08From and DescriptorFromBytes of the model.
-/
import Derived.Test.YtbdfnkhmnglpbaaEigA
import Derived.Laws.EntriesVeiled
import Derived.Test.YtbdfnkhmnglpbaaFourA
import Derived.Test.YtbdfnkhmnglpbaaSixD
import Derived.Deep.RegionHeld3
namespace Go.Proofs.Ytbdfnkhmnglpbaa
section
open Go.RowKit

/-- A slice literal of five numbers. -/
theorem Own.of_alloc_five {E base : Nat} {w : World} (a b c d e : Int) (hE : base ≤ w.heap.size) : Own E (w.alloc (.cells #[.int .i64 a, .int .i64 b, .int .i64 c, .int .i64 d, .int .i64 e] E)) base (.slice (some ⟨w.heap.size, 0, none⟩) 5 5) [a, b, c, d, e] :=
  ⟨by simp, .inr ⟨w.heap.size, 5, #[.int .i64 a, .int .i64 b, .int .i64 c, .int .i64 d, .int .i64 e], by simp, hE, heap_alloc_new w _, by simp, by unfold maxLen; omega, by simp, by simp⟩⟩
/-- The numbers of a descriptor lie where its bytes are bytes. -/
def descIn (d : Ds) : Prop := (0 ≤ d.kind ∧ d.kind ≤ 3) ∧ (0 ≤ d.size ∧ d.size ≤ 32) ∧ (0 ≤ d.dur ∧ d.dur ≤ 1000)
theorem desc_in {d : Ds} (h : isDesc d = true) : descIn d := by
  obtain ⟨h1, h2, h3, h4, h5, h6⟩ := desc_parts h
  have hc := cells_in d.kind d.size
  have hk := inRange_iff.1 h2
  exact ⟨hk, sizeOk_le h3, by omega⟩
theorem l08Bytes_any (n a z u : Int) (c : Bool) (w : World) (h : descIn ⟨n, a, z, u, c⟩) : Calls Try.prog 99 #[.agg #[.int .i64 n, .int .i64 a, .int .i64 z, .int .i64 u, .bool c]] w (Makes 2 w (descBytes ⟨n, a, z, u, c⟩)) := by
  obtain ⟨⟨k0, k1⟩, ⟨s0, s1⟩, u0, u1⟩ := h
  simp only at k0 k1 s0 s1 u0 u1
  unfold descBytes
  simp only
  have hw1 : IntKind.i64.wrap (a * 64) = a * 64 := by rw [IntKind.wrap_i64]; omega
  have hw2 : IntKind.i64.wrap (a * 64 + z) = a * 64 + z := by rw [IntKind.wrap_i64]; omega
  have hw3 : IntKind.i64.wrap (u.tdiv 256) = u / 256 := by rw [Int.tdiv_eq_ediv_of_nonneg u0, IntKind.wrap_i64]; omega
  have hw4 : u.tmod 256 = u % 256 := by rw [Int.tmod_eq_emod_of_nonneg u0]
  clear k0 k1 s0 s1 u0 u1
  have hO : ∀ x0 x1 x2 x3 x4 : Int, Own 2 ((w.alloc (.cells #[.int .i64 n, .int .i64 a, .int .i64 z, .int .i64 u, .bool c] 49)).alloc (.cells #[.int .i64 x0, .int .i64 x1, .int .i64 x2, .int .i64 x3, .int .i64 x4] 2)) w.heap.size (.slice (some ⟨w.heap.size + 1, 0, none⟩) 5 5) [x0, x1, x2, x3, x4] := by
    intro x0 x1 x2 x3 x4
    have e : (w.alloc (.cells #[.int .i64 n, .int .i64 a, .int .i64 z, .int .i64 u, .bool c] 49)).heap.size = w.heap.size + 1 := by simp
    have h := Own.of_alloc_five (E := 2) (base := w.heap.size) (w := w.alloc (.cells #[.int .i64 n, .int .i64 a, .int .i64 z, .int .i64 u, .bool c] 49)) x0 x1 x2 x3 x4 (by omega)
    rwa [e] at h
  have HO := Lib.hid hO; clear hO
  cases c with
  | true =>
    go_enter Try.func99, Try.ntmps99
    go_wp2
    go_ret
    exact ⟨_, rfl, HO.out _ _ _ _ _, ((Below.refl _ _).alloc (Nat.le_refl _) _).alloc (by simp) _⟩
  | false =>
    go_enter Try.func99, Try.ntmps99
    go_wp2
    go_ret
    exact ⟨_, rfl, HO.out _ _ _ _ _, ((Below.refl _ _).alloc (Nat.le_refl _) _).alloc (by simp) _⟩
theorem sDescToBytes_any (n a z u : Int) (c : Bool) (w : World) : Calls Try.prog 37 #[.agg #[.int .i64 n, .int .i64 a, .int .i64 z, .int .i64 u, .bool c]] w (Makes2 2 w (descToBytes ⟨n, a, z, u, c⟩).1 (descToBytes ⟨n, a, z, u, c⟩).2) := by
  have hi := fun (W : World) => sIsDescriptor_any n a z u c W
  unfold descToBytes
  rcases hd : isDesc ⟨n, a, z, u, c⟩ with _ | _
  · rw [hd] at hi
    rw [if_neg (by simp)]
    have HI := Lib.hid hi; clear hi hd
    go_enter Try.func37, Try.ntmps37
    go_wp2_with fail
    refine (HI.out _).mono ?_
    rintro e w1 ⟨rfl, b1⟩
    go_wp2
    go_ret2
    exact ⟨_, rfl, Own.nil_, below_box b1⟩
  · rw [hd] at hi
    rw [if_pos rfl]
    have hb := fun (W : World) => l08Bytes_any n a z u c W (desc_in hd)
    have HI := Lib.hid hi; have HB := Lib.hid hb; clear hi hb hd
    go_enter Try.func37, Try.ntmps37
    go_wp2_with fail
    refine (HI.out _).mono ?_
    rintro e w1 ⟨rfl, b1⟩
    have hd := desc_new b1
    have d0 := hd.c0; have d1 := hd.c1; have d2 := hd.c2; have d3 := hd.c3; have d4 := hd.c4
    clear hd
    go_wp2_with fail
    refine (HB.out _).mono ?_
    rintro e w2 ⟨v, rfl, o2, b2⟩
    clear d0 d1 d2 d3 d4
    have OS := Lib.hid o2; clear o2
    go_wp2
    go_ret2
    exact ⟨_, rfl, OS.out.more (below_box b1).size, below_two (below_box b1) b2⟩
end

section
open Go.RowKit

/-- The table of descriptorLayout. -/
def layout8 : Array Value := #[.func (.func 135) #[] #[], .func (.func 136) #[] #[], .func (.func 137) #[] #[], .func (.func 138) #[] #[], .func (.func 139) #[] #[], .func (.func 140) #[] #[], .func (.func 141) #[] #[], .func (.func 142) #[] #[], .func (.func 143) #[] #[], .func (.func 145) #[] #[]]
theorem layout_any (w : World) : Calls Try.prog 98 #[] w fun e w' => e = .returned (.agg layout8) ∧ Below w.heap.size w w' := by
  go_enter Try.func98, Try.ntmps98
  go_wp2
  exact bodyPost_ret (v := .agg layout8) (by simp [results, Try.results98, go_sem, layout8]) rfl ⟨rfl, (Below.refl _ _).alloc (Nat.le_refl _) _⟩
theorem flagByte_any (c : Bool) (w : World) : Calls Try.prog 144 #[.bool c] w fun e w' => e = .returned (.int .i64 (flag8 c)) ∧ w = w' := by
  cases c with
  | true =>
    go_enter Try.func144, Try.ntmps144
    go_wp2
    go_ret
    exact ⟨rfl, rfl⟩
  | false =>
    go_enter Try.func144, Try.ntmps144
    go_wp2
    go_ret
    exact ⟨rfl, rfl⟩
theorem or_small : ∀ a, a < 4 → ∀ z, z < 33 → bits .or .i64 ((a : Nat) * 64 : Int) ((z : Nat) : Int) = (a : Int) * 64 + (z : Int) := by decide +kernel
theorem or_desc {a z : Int} (ha : 0 ≤ a ∧ a ≤ 3) (hz : 0 ≤ z ∧ z ≤ 32) : bits .or .i64 (a * 64) z = a * 64 + z := by
  have h := or_small a.toNat (by omega) z.toNat (by omega)
  rwa [Int.toNat_of_nonneg ha.1, Int.toNat_of_nonneg hz.1] at h
theorem and_mask6 (n : Int) : bits .and .i64 n 63 = n % 64 := by
  have h1 : (BitVec.ofInt 64 63).toNat = 2 ^ 6 - 1 := by decide
  have key : (BitVec.ofInt 64 n &&& BitVec.ofInt 64 63).toNat = (n % ((2 ^ 64 : Nat) : Int)).toNat % 2 ^ 6 := by
    rw [BitVec.toNat_and, BitVec.toNat_ofInt, h1, Nat.and_two_pow_sub_one_eq_mod]
  show IntKind.i64.wrap ((BitVec.ofInt 64 n &&& BitVec.ofInt 64 63).toNat : Nat) = n % 64
  rw [key, IntKind.wrap_i64]
  omega
section
variable (n a z u : Int) (c : Bool) (w : World)
theorem write1 : Calls Try.prog 135 #[.agg #[.int .i64 n, .int .i64 a, .int .i64 z, .int .i64 u, .bool c]] w fun e w' => e = .returned (.int .i64 (n)) ∧ Below w.heap.size w w' := by
  go_enter Try.func135, Try.ntmps135
  go_wp2
  go_ret
  exact ⟨rfl, (Below.refl _ _).alloc (Nat.le_refl _) _⟩
theorem write2 (ha : 0 ≤ a ∧ a ≤ 3) (hz : 0 ≤ z ∧ z ≤ 32) : Calls Try.prog 137 #[.agg #[.int .i64 n, .int .i64 a, .int .i64 z, .int .i64 u, .bool c]] w fun e w' => e = .returned (.int .i64 (a * 64 + z)) ∧ Below w.heap.size w w' := by
  have hw := or_desc ha hz
  have hw1 : IntKind.i64.wrap (a * 64) = a * 64 := by rw [IntKind.wrap_i64]; omega
  clear ha hz
  go_enter Try.func137, Try.ntmps137
  go_wp2
  go_ret
  exact ⟨rfl, (Below.refl _ _).alloc (Nat.le_refl _) _⟩
theorem write3 (hu : 0 ≤ u ∧ u ≤ 1000) : Calls Try.prog 139 #[.agg #[.int .i64 n, .int .i64 a, .int .i64 z, .int .i64 u, .bool c]] w fun e w' => e = .returned (.int .i64 (u / 256)) ∧ Below w.heap.size w w' := by
  have hw3 : IntKind.i64.wrap (u.tdiv 256) = u / 256 := by rw [Int.tdiv_eq_ediv_of_nonneg hu.1, IntKind.wrap_i64]; omega
  clear hu
  go_enter Try.func139, Try.ntmps139
  go_wp2
  go_ret
  exact ⟨rfl, (Below.refl _ _).alloc (Nat.le_refl _) _⟩
theorem write4 (hu : 0 ≤ u) : Calls Try.prog 141 #[.agg #[.int .i64 n, .int .i64 a, .int .i64 z, .int .i64 u, .bool c]] w fun e w' => e = .returned (.int .i64 (u % 256)) ∧ Below w.heap.size w w' := by
  have hw4 : u.tmod 256 = u % 256 := by rw [Int.tmod_eq_emod_of_nonneg hu]
  clear hu
  go_enter Try.func141, Try.ntmps141
  go_wp2
  go_ret
  exact ⟨rfl, (Below.refl _ _).alloc (Nat.le_refl _) _⟩
theorem write5 : Calls Try.prog 143 #[.agg #[.int .i64 n, .int .i64 a, .int .i64 z, .int .i64 u, .bool c]] w fun e w' => e = .returned (.int .i64 (flag8 c)) ∧ Below w.heap.size w w' := by
  go_enter Try.func143, Try.ntmps143
  go_wp2_with fail
  refine (flagByte_any _ _).mono ?_
  rintro e w1 ⟨rfl, rfl⟩
  go_wp2
  go_ret
  exact ⟨rfl, (Below.refl _ _).alloc (Nat.le_refl _) _⟩
end
section
variable {T : Nat} (b : Nat) (n a z u : Int) (c : Bool) (x : Int) (w : World)
theorem read1 (h : DescAt T w b n a z u c) : Calls Try.prog 136 #[.pointer (some ⟨b, 0, none⟩), .int .i64 x] w fun e w' => e = .returned (.tuple #[]) ∧ DescAt T w' b x a z u c ∧ w.grownBy w' (some b) := by
  have d0 := h.c0; have d1 := h.c1; have d2 := h.c2; have d3 := h.c3; have d4 := h.c4
  have f0 := h.f 0; have f1 := h.f 1; have f2 := h.f 2; have f3 := h.f 3; have f4 := h.f 4
  have HH := Lib.hid h; clear h
  go_enter Try.func136, Try.ntmps136
  go_wp2
  exact bodyPost_end (v := .tuple #[]) (by simp [results, Try.results136, go_sem]) rfl ⟨rfl, HH.out.set0 _, grown_setCell _ _ _ _⟩
theorem read2 (h : DescAt T w b n a z u c) : Calls Try.prog 138 #[.pointer (some ⟨b, 0, none⟩), .int .i64 x] w fun e w' => e = .returned (.tuple #[]) ∧ DescAt T w' b n (x / 64) (x % 64) u c ∧ w.grownBy w' (some b) := by
  have d0 := h.c0; have d1 := h.c1; have d2 := h.c2; have d3 := h.c3; have d4 := h.c4
  have f0 := h.f 0; have f1 := h.f 1; have f2 := h.f 2; have f3 := h.f 3; have f4 := h.f 4
  have HH := Lib.hid h; clear h
  have hm := and_mask6 x
  go_enter Try.func138, Try.ntmps138
  go_wp2
  exact bodyPost_end (v := .tuple #[]) (by simp [results, Try.results138, go_sem]) rfl ⟨rfl, (HH.out.set1 _).set2 _, grown_trans (grown_setCell _ _ _ _) (grown_setCell _ _ _ _)⟩
theorem read3 (h : DescAt T w b n a z u c) : Calls Try.prog 140 #[.pointer (some ⟨b, 0, none⟩), .int .i64 x] w fun e w' => e = .returned (.tuple #[]) ∧ DescAt T w' b n a z (IntKind.i64.wrap (x * 256)) c ∧ w.grownBy w' (some b) := by
  have d0 := h.c0; have d1 := h.c1; have d2 := h.c2; have d3 := h.c3; have d4 := h.c4
  have f0 := h.f 0; have f1 := h.f 1; have f2 := h.f 2; have f3 := h.f 3; have f4 := h.f 4
  have HH := Lib.hid h; clear h
  generalize hv : IntKind.i64.wrap (x * 256) = v
  go_enter Try.func140, Try.ntmps140
  go_wp2
  exact bodyPost_end (v := .tuple #[]) (by simp [results, Try.results140, go_sem]) rfl ⟨rfl, HH.out.set3 _, grown_setCell _ _ _ _⟩
theorem read4 (h : DescAt T w b n a z u c) : Calls Try.prog 142 #[.pointer (some ⟨b, 0, none⟩), .int .i64 x] w fun e w' => e = .returned (.tuple #[]) ∧ DescAt T w' b n a z (IntKind.i64.wrap (u + x)) c ∧ w.grownBy w' (some b) := by
  have d0 := h.c0; have d1 := h.c1; have d2 := h.c2; have d3 := h.c3; have d4 := h.c4
  have f0 := h.f 0; have f1 := h.f 1; have f2 := h.f 2; have f3 := h.f 3; have f4 := h.f 4
  have HH := Lib.hid h; clear h
  generalize hv : IntKind.i64.wrap (u + x) = v
  go_enter Try.func142, Try.ntmps142
  go_wp2
  exact bodyPost_end (v := .tuple #[]) (by simp [results, Try.results142, go_sem]) rfl ⟨rfl, HH.out.set3 _, grown_setCell _ _ _ _⟩
theorem read5 (h : DescAt T w b n a z u c) : Calls Try.prog 145 #[.pointer (some ⟨b, 0, none⟩), .int .i64 x] w fun e w' => e = .returned (.tuple #[]) ∧ DescAt T w' b n a z u (decide (x = 1)) ∧ w.grownBy w' (some b) := by
  have d0 := h.c0; have d1 := h.c1; have d2 := h.c2; have d3 := h.c3; have d4 := h.c4
  have f0 := h.f 0; have f1 := h.f 1; have f2 := h.f 2; have f3 := h.f 3; have f4 := h.f 4
  have HH := Lib.hid h; clear h
  go_enter Try.func145, Try.ntmps145
  go_wp2_with fail
  refine (flagByte_any _ _).mono ?_
  rintro e w1 ⟨rfl, rfl⟩
  go_wp2
  exact bodyPost_end (v := .tuple #[]) (by simp [results, Try.results145, go_sem]) rfl ⟨rfl, HH.out.set4 _, grown_setCell _ _ _ _⟩
end
end

section
open Go.RowKit

theorem layout_at0 (w : World) : (Instr.index 117 (.agg layout8) (.int .i64 0)).run Try.prog w = .ok (.agg #[.func (.func 135) #[] #[], .func (.func 136) #[] #[]]) w := by kernel_rfl
theorem layout_at1 (w : World) : (Instr.index 117 (.agg layout8) (.int .i64 1)).run Try.prog w = .ok (.agg #[.func (.func 137) #[] #[], .func (.func 138) #[] #[]]) w := by kernel_rfl
theorem layout_at2 (w : World) : (Instr.index 117 (.agg layout8) (.int .i64 2)).run Try.prog w = .ok (.agg #[.func (.func 139) #[] #[], .func (.func 140) #[] #[]]) w := by kernel_rfl
theorem layout_at3 (w : World) : (Instr.index 117 (.agg layout8) (.int .i64 3)).run Try.prog w = .ok (.agg #[.func (.func 141) #[] #[], .func (.func 142) #[] #[]]) w := by kernel_rfl
theorem layout_at4 (w : World) : (Instr.index 117 (.agg layout8) (.int .i64 4)).run Try.prog w = .ok (.agg #[.func (.func 143) #[] #[], .func (.func 145) #[] #[]]) w := by kernel_rfl
/-- While the bytes are written. -/
structure WriteSt (w wr : World) (n a z u : Int) (c : Bool) (g : Nat) (cap : Nat) (zs : List Int) : Prop where
  box : DescAt 49 wr w.heap.size n a z u c
  own : Own 2 wr (w.heap.size + 1) (.slice (some ⟨g, 0, none⟩) 5 cap) zs
  below : Below w.heap.size w wr
theorem WriteSt.call {w wr wi : World} {n a z u : Int} {c : Bool} {g cap : Nat} {zs : List Int} (h : WriteSt w wr n a z u c g cap zs) (b : Below wr.heap.size wr wi) : WriteSt w wi n a z u c g cap zs :=
  ⟨h.box.below b h.box.lt, h.own.below b, below_two h.below b⟩
theorem WriteSt.set {w wr : World} {n a z u : Int} {c : Bool} {g cap : Nat} {zs : List Int} (h : WriteSt w wr n a z u c g cap zs) (hl : zs.length = 5) {k : Nat} (hk : k < 5) (y : Int) :
    wr.cell? ⟨g, k, none⟩ = some (.int .i64 (zs.getD k 0)) ∧ wr.frozen? ⟨g, k, none⟩ = false ∧ WriteSt w (wr.setCell ⟨g, k, none⟩ (.int .i64 y)) n a z u c g cap (zs.set k y) := by
  obtain ⟨h1, h2, h3, h4⟩ := own_store h.own hl hk y
  exact ⟨h1, h2, h.box.below h4 (Nat.lt_succ_self _), h3, h.below.trans (h4.mono (Nat.le_succ _))⟩
/-- The first k of five numbers, and noughts. -/
def firsts (x0 x1 x2 x3 x4 : Int) (k : Nat) : List Int := [x0, x1, x2, x3, x4].take k ++ List.replicate (5 - k) 0
set_option maxHeartbeats 2000000 in
set_option maxRecDepth 100000 in
theorem descToBytes_any (n a z u : Int) (c : Bool) (w : World) : Calls Try.prog 36 #[.agg #[.int .i64 n, .int .i64 a, .int .i64 z, .int .i64 u, .bool c]] w (Makes2 2 w (descToBytes ⟨n, a, z, u, c⟩).1 (descToBytes ⟨n, a, z, u, c⟩).2) := by
  have hi := fun (W : World) => isDescriptor_any n a z u c W
  unfold descToBytes
  rcases hd : isDesc ⟨n, a, z, u, c⟩ with _ | _
  · rw [hd] at hi
    rw [if_neg (by simp)]
    have HI := Lib.hid hi; clear hi hd
    go_enter Try.func36, Try.ntmps36
    go_wp2_with fail
    refine (HI.out _).mono ?_
    rintro e w1 ⟨rfl, b1⟩
    go_wp2
    go_ret2
    exact ⟨_, rfl, Own.nil_, below_box b1⟩
  rw [hd] at hi
  rw [if_pos rfl]
  obtain ⟨hka, hkz, hku⟩ := desc_in hd
  simp only at hka hkz hku
  unfold descBytes
  simp only
  have hw0 := fun W => write1 n a z u c W
  have hw1 := fun W => write2 n a z u c W hka hkz
  have hw2 := fun W => write3 n a z u c W hku
  have hw3 := fun W => write4 n a z u c W hku.1
  have hw4 := fun W => write5 n a z u c W
  generalize a * 64 + z = x1 at hw1 ⊢
  generalize u / 256 = x2 at hw2 ⊢
  generalize u % 256 = x3 at hw3 ⊢
  generalize flag8 c = x4 at hw4 ⊢
  obtain ⟨x0, hx0⟩ : ∃ x0, n = x0 := ⟨_, rfl⟩
  replace hw0 : ∀ W, Calls Try.prog 135 #[.agg #[.int .i64 n, .int .i64 a, .int .i64 z, .int .i64 u, .bool c]] W fun e w' => e = .returned (.int .i64 x0) ∧ Below W.heap.size W w' := by rw [← hx0]; exact hw0
  have hres : Makes2 2 w [n, x1, x2, x3, x4] 0 = Makes2 2 w [x0, x1, x2, x3, x4] 0 := by rw [hx0]
  rw [hres]
  have HI := Lib.hid hi; have HW0 := Lib.hid hw0; have HW1 := Lib.hid hw1; have HW2 := Lib.hid hw2; have HW3 := Lib.hid hw3; have HW4 := Lib.hid hw4
  clear hi hd hka hkz hku hw0 hw1 hw2 hw3 hw4 hres hx0
  go_enter Try.func36, Try.ntmps36
  go_wp2_with (first
    | (go_at_call 43; refine (HI.out _).mono ?_; rintro e w1 ⟨rfl, b1⟩; have D1 := Lib.hid (desc_new b1); have B1 := Lib.hid (below_box b1); clear b1; have hsz : w.heap.size + 1 ≤ w1.heap.size := D1.out.lt)
    | (at_make; refine make_cap _ rfl _ _ rfl (w.heap.size + 1) Try.underlying26 info64 _ _ _ _ 5 5 rfl rfl rfl rfl (Nat.le_refl _) (by omega) hsz ?_; intro w2 o2 b2)
    | (go_at_call 98; refine (layout_any _).mono ?_; rintro e w3 ⟨rfl, b3⟩))
  have W0 : WriteSt w w2 n a z u c w1.heap.size 5 (firsts x0 x1 x2 x3 x4 0) := ⟨D1.out.below b2 (Nat.lt_succ_self _), o2, B1.out.trans (b2.mono (Nat.le_succ _))⟩
  replace W0 := Lib.hid (W0.call b3)
  clear D1 B1 hsz o2 b2 b3
  generalize w1.heap.size = g at W0 ⊢
  go_loopw [12] (fun i wr => ∃ k : Nat, k ≤ 5 ∧ i = .int .i64 k ∧ Hid (WriteSt w wr n a z u c g 5 (firsts x0 x1 x2 x3 x4 k))) (fun i _ => 5 - (intOf i).toNat)
  case atStart => exact ⟨0, by omega, rfl, W0⟩
  case round =>
    clear W0
    obtain ⟨k, hk, hi, H⟩ := hrel
    have hk6 : k = 0 ∨ k = 1 ∨ k = 2 ∨ k = 3 ∨ k = 4 ∨ k = 5 := by omega
    clear hk
    rcases hk6 with rfl | rfl | rfl | rfl | rfl | rfl
    · replace hi : _ = Value.int .i64 0 := hi
      subst hi
      have hix := layout_at0
      have hc := fun o => H.out.call ((Below.refl wr.heap.size wr).alloc (Nat.le_refl _) o)
      have d0 := fun o => (hc o).box.c0
      have d1 := fun o => (hc o).box.c1
      have d2 := fun o => (hc o).box.c2
      have d3 := fun o => (hc o).box.c3
      have d4 := fun o => (hc o).box.c4
      clear hc
      go_wp2_with (go_at_call 135; refine (HW0.out _).mono ?_; rintro e w4 ⟨rfl, b4⟩; have H4 := (H.out.call ((Below.refl _ _).alloc (Nat.le_refl _) _)).call b4; obtain ⟨e1, e2, H5⟩ := H4.set rfl (k := 0) (by omega) x0; clear b4 H4; replace H5 := Lib.hid H5)
      go_roundw
      case rel => exact ⟨1, by omega, rfl, H5⟩
      case measure => simp [intOf]
    · replace hi : _ = Value.int .i64 1 := hi
      subst hi
      have hix := layout_at1
      have hc := fun o => H.out.call ((Below.refl wr.heap.size wr).alloc (Nat.le_refl _) o)
      have d0 := fun o => (hc o).box.c0
      have d1 := fun o => (hc o).box.c1
      have d2 := fun o => (hc o).box.c2
      have d3 := fun o => (hc o).box.c3
      have d4 := fun o => (hc o).box.c4
      clear hc
      go_wp2_with (go_at_call 137; refine (HW1.out _).mono ?_; rintro e w4 ⟨rfl, b4⟩; have H4 := (H.out.call ((Below.refl _ _).alloc (Nat.le_refl _) _)).call b4; obtain ⟨e1, e2, H5⟩ := H4.set rfl (k := 1) (by omega) x1; clear b4 H4; replace H5 := Lib.hid H5)
      go_roundw
      case rel => exact ⟨2, by omega, rfl, H5⟩
      case measure => simp [intOf]
    · replace hi : _ = Value.int .i64 2 := hi
      subst hi
      have hix := layout_at2
      have hc := fun o => H.out.call ((Below.refl wr.heap.size wr).alloc (Nat.le_refl _) o)
      have d0 := fun o => (hc o).box.c0
      have d1 := fun o => (hc o).box.c1
      have d2 := fun o => (hc o).box.c2
      have d3 := fun o => (hc o).box.c3
      have d4 := fun o => (hc o).box.c4
      clear hc
      go_wp2_with (go_at_call 139; refine (HW2.out _).mono ?_; rintro e w4 ⟨rfl, b4⟩; have H4 := (H.out.call ((Below.refl _ _).alloc (Nat.le_refl _) _)).call b4; obtain ⟨e1, e2, H5⟩ := H4.set rfl (k := 2) (by omega) x2; clear b4 H4; replace H5 := Lib.hid H5)
      go_roundw
      case rel => exact ⟨3, by omega, rfl, H5⟩
      case measure => simp [intOf]
    · replace hi : _ = Value.int .i64 3 := hi
      subst hi
      have hix := layout_at3
      have hc := fun o => H.out.call ((Below.refl wr.heap.size wr).alloc (Nat.le_refl _) o)
      have d0 := fun o => (hc o).box.c0
      have d1 := fun o => (hc o).box.c1
      have d2 := fun o => (hc o).box.c2
      have d3 := fun o => (hc o).box.c3
      have d4 := fun o => (hc o).box.c4
      clear hc
      go_wp2_with (go_at_call 141; refine (HW3.out _).mono ?_; rintro e w4 ⟨rfl, b4⟩; have H4 := (H.out.call ((Below.refl _ _).alloc (Nat.le_refl _) _)).call b4; obtain ⟨e1, e2, H5⟩ := H4.set rfl (k := 3) (by omega) x3; clear b4 H4; replace H5 := Lib.hid H5)
      go_roundw
      case rel => exact ⟨4, by omega, rfl, H5⟩
      case measure => simp [intOf]
    · replace hi : _ = Value.int .i64 4 := hi
      subst hi
      have hix := layout_at4
      have hc := fun o => H.out.call ((Below.refl wr.heap.size wr).alloc (Nat.le_refl _) o)
      have d0 := fun o => (hc o).box.c0
      have d1 := fun o => (hc o).box.c1
      have d2 := fun o => (hc o).box.c2
      have d3 := fun o => (hc o).box.c3
      have d4 := fun o => (hc o).box.c4
      clear hc
      go_wp2_with (go_at_call 143; refine (HW4.out _).mono ?_; rintro e w4 ⟨rfl, b4⟩; have H4 := (H.out.call ((Below.refl _ _).alloc (Nat.le_refl _) _)).call b4; obtain ⟨e1, e2, H5⟩ := H4.set rfl (k := 4) (by omega) x4; clear b4 H4; replace H5 := Lib.hid H5)
      go_roundw
      case rel => exact ⟨5, by omega, rfl, H5⟩
      case measure => simp [intOf]
    · replace hi : _ = Value.int .i64 5 := hi
      subst hi
      have OW := Lib.hid H.out.own; have BW := Lib.hid H.out.below
      clear H
      go_wp2
      go_ret2
      exact ⟨_, rfl, OW.out.more (Nat.le_succ _), BW.out⟩
end

section
open Go.RowKit

def setDesc (w : World) (b : Nat) (n a z u : Int) (c : Bool) : World := ((((w.setCell ⟨b, 0, none⟩ (.int .i64 n)).setCell ⟨b, 1, none⟩ (.int .i64 a)).setCell ⟨b, 2, none⟩ (.int .i64 z)).setCell ⟨b, 3, none⟩ (.int .i64 u)).setCell ⟨b, 4, none⟩ (.bool c)
theorem DescAt.five {T b : Nat} {w : World} {n a z u : Int} {c : Bool} (h : DescAt T w b n a z u c) (n' a' z' u' : Int) (c' : Bool) : DescAt T (setDesc w b n' a' z' u' c') b n' a' z' u' c' := ((((h.set0 n').set1 a').set2 z').set3 u').set4 c'
theorem below_desc {B b : Nat} {w : World} (hb : B ≤ b) (n a z u : Int) (c : Bool) : Below B w (setDesc w b n a z u c) := ((((((Below.refl _ _).setCell hb _).setCell hb _).setCell hb _).setCell hb _).setCell hb _)
/-- While the numbers are read: the result, still the zero value, and the descriptor so far. -/
structure ReadLp (w wr : World) (d : Ds) : Prop where
  res : DescAt 49 wr w.heap.size 0 0 0 0 false
  var : DescAt 49 wr (w.heap.size + 1) d.node d.kind d.size d.dur d.chg
  below : Below w.heap.size w wr
theorem ReadLp.call {w wr wi : World} {d : Ds} (h : ReadLp w wr d) (b : Below wr.heap.size wr wi) : ReadLp w wi d := ⟨h.res.below b h.res.lt, h.var.below b h.var.lt, below_two h.below b⟩
theorem ReadLp.mut {w wr wi : World} {d : Ds} {n a z u : Int} {c : Bool} (h : ReadLp w wr d) (hv : DescAt 49 wi (w.heap.size + 1) n a z u c) (g : wr.grownBy wi (some (w.heap.size + 1))) : ReadLp w wi ⟨n, a, z, u, c⟩ :=
  ⟨h.res.grown g (by simp), hv, only_below h.below g h.below.size (by intro k e; cases e; omega)⟩
theorem ReadLp.fin {w wr : World} {d : Ds} (h : ReadLp w wr d) (n a z u : Int) (c : Bool) : DescAt 49 (setDesc wr w.heap.size n a z u c) w.heap.size n a z u c ∧ Below w.heap.size w (setDesc wr w.heap.size n a z u c) :=
  ⟨h.res.five n a z u c, h.below.trans (below_desc (Nat.le_refl _) n a z u c)⟩
/-- What has been read behind k numbers. -/
def readDs (x0 y1 y2 y3 y4 : Int) (y5 : Bool) (k : Nat) : Ds :=
  match k with
  | 0 => ⟨0, 0, 0, 0, false⟩
  | 1 => ⟨x0, 0, 0, 0, false⟩
  | 2 => ⟨x0, y1, y2, 0, false⟩
  | 3 => ⟨x0, y1, y2, y3, false⟩
  | 4 => ⟨x0, y1, y2, y4, false⟩
  | _ => ⟨x0, y1, y2, y4, y5⟩
theorem from_not5 (ao : Option Addr) (n cap : Nat) (xs : List Int) (w : World) (hn5 : n ≠ 5) (hr : Rd w ao n xs) : Calls Try.prog 41 #[.slice ao n cap] w fun e w' => e = .returned (.tuple #[.agg #[.int .i64 (descFrom xs).1.node, .int .i64 (descFrom xs).1.kind, .int .i64 (descFrom xs).1.size, .int .i64 (descFrom xs).1.dur, .bool (descFrom xs).1.chg], .int .i64 (descFrom xs).2]) ∧ Below w.heap.size w w' := by
  have hl := hr.len
  rw [descFrom_len (by omega)]
  have t1 : ((n : Int) != 5) = true := by simp; omega
  clear hl hr
  go_enter Try.func41, Try.ntmps41
  go_wp2
  exact bodyPost_ret (v := .tuple #[.agg #[.int .i64 0, .int .i64 0, .int .i64 0, .int .i64 0, .bool false], .int .i64 6]) (by simp [results, Try.results41, go_sem]) rfl ⟨rfl, (Below.refl _ _).alloc (Nat.le_refl _) _⟩
set_option maxHeartbeats 4000000 in
set_option maxRecDepth 100000 in
set_option linter.unusedSimpArgs false in
theorem from_5 (b off cap : Nat) (x0 x1 x2 x3 x4 : Int) (w : World) (hr : Rd w (some ⟨b, off, none⟩) 5 [x0, x1, x2, x3, x4]) : Calls Try.prog 41 #[.slice (some ⟨b, off, none⟩) 5 cap] w fun e w' => e = .returned (.tuple #[.agg #[.int .i64 (descFrom [x0, x1, x2, x3, x4]).1.node, .int .i64 (descFrom [x0, x1, x2, x3, x4]).1.kind, .int .i64 (descFrom [x0, x1, x2, x3, x4]).1.size, .int .i64 (descFrom [x0, x1, x2, x3, x4]).1.dur, .bool (descFrom [x0, x1, x2, x3, x4]).1.chg], .int .i64 (descFrom [x0, x1, x2, x3, x4]).2]) ∧ Below w.heap.size w w' := by
  have hcell : ∀ k, k < 5 → w.cell? ⟨b, off + k, none⟩ = some (.int .i64 ([x0, x1, x2, x3, x4].getD k 0)) := by
    obtain ⟨b', off', e, hc⟩ := hr.here (by omega)
    cases e
    exact hc
  have hblt : b < w.heap.size := World.block_lt_of_cell? w _ (hcell 0 (by omega))
  have hcW : ∀ W, Below w.heap.size w W → ∀ k, k < 5 → W.cell? ⟨b, off + k, none⟩ = some (.int .i64 ([x0, x1, x2, x3, x4].getD k 0)) := fun W hW k hk => (hW.cell (p := ⟨b, off + k, none⟩) hblt).trans (hcell k hk)
  clear hcell hblt
  have hdf : descFrom [x0, x1, x2, x3, x4] = if isDesc (descRaw x0 x1 x2 x3 x4) = true ∧ descBytes (descRaw x0 x1 x2 x3 x4) = [x0, x1, x2, x3, x4] then (descRaw x0 x1 x2 x3 x4, 0) else (Ds.zero, 6) := rfl
  unfold descRaw at hdf
  have h0 := fun (W : World) (n a z u : Int) (c : Bool) (h : DescAt 49 W (w.heap.size + 1) n a z u c) => read1 (w.heap.size + 1) n a z u c x0 W h
  have h1 := fun (W : World) (n a z u : Int) (c : Bool) (h : DescAt 49 W (w.heap.size + 1) n a z u c) => read2 (w.heap.size + 1) n a z u c x1 W h
  have h2 := fun (W : World) (n a z u : Int) (c : Bool) (h : DescAt 49 W (w.heap.size + 1) n a z u c) => read3 (w.heap.size + 1) n a z u c x2 W h
  have h3 := fun (W : World) (n a z : Int) (c : Bool) (h : DescAt 49 W (w.heap.size + 1) n a z (IntKind.i64.wrap (x2 * 256)) c) => read4 (w.heap.size + 1) n a z (IntKind.i64.wrap (x2 * 256)) c x3 W h
  have h4 := fun (W : World) (n a z u : Int) (c : Bool) (h : DescAt 49 W (w.heap.size + 1) n a z u c) => read5 (w.heap.size + 1) n a z u c x4 W h
  generalize x1 / 64 = y1 at h1 hdf
  generalize x1 % 64 = y2 at h1 hdf
  generalize IntKind.i64.wrap (x2 * 256) = y3 at h2 h3 hdf
  generalize IntKind.i64.wrap (y3 + x3) = y4 at h3 hdf
  generalize decide (x4 = 1) = y5 at h4 hdf
  have hdb := fun (W : World) => descToBytes_any x0 y1 y2 y4 y5 W
  obtain ⟨ys, cd, hyc⟩ : ∃ ys cd, descToBytes ⟨x0, y1, y2, y4, y5⟩ = (ys, cd) := ⟨_, _, rfl⟩
  rw [hyc] at hdb
  simp only at hdb
  have hyl : ys.length ≤ 5 := by
    unfold descToBytes at hyc
    split at hyc
    · simp only [Prod.mk.injEq] at hyc; rw [← hyc.1]; exact Nat.le_refl _
    · simp only [Prod.mk.injEq] at hyc; rw [← hyc.1]; exact Nat.zero_le _
  have hgood : cd = 0 → ys = [x0, x1, x2, x3, x4] → descFrom [x0, x1, x2, x3, x4] = (⟨x0, y1, y2, y4, y5⟩, 0) := by
    intro e1 e2
    unfold descToBytes at hyc
    split at hyc
    · rename_i hd
      simp only [Prod.mk.injEq] at hyc
      rw [hdf, if_pos ⟨hd, by rw [hyc.1, e2]⟩]
    · simp only [Prod.mk.injEq] at hyc; omega
  have hbad : ¬ (cd = 0 ∧ ys = [x0, x1, x2, x3, x4]) → descFrom [x0, x1, x2, x3, x4] = (Ds.zero, 6) := by
    intro hne
    rw [hdf, if_neg]
    rintro ⟨hd, he⟩
    unfold descToBytes at hyc
    rw [if_pos hd] at hyc
    simp only [Prod.mk.injEq] at hyc
    exact hne ⟨hyc.2.symm, by rw [← hyc.1, he]⟩
  have HR := Lib.hid hr; have HCW := Lib.hid hcW; have H0 := Lib.hid h0; have H1 := Lib.hid h1; have H2 := Lib.hid h2; have H3 := Lib.hid h3; have H4 := Lib.hid h4; have HDB := Lib.hid hdb; have HGOOD := Lib.hid hgood; have HBAD := Lib.hid hbad; have HYL := Lib.hid hyl
  clear hr hcW h0 h1 h2 h3 h4 hdb hgood hbad hyl hyc hdf
  go_enter Try.func41, Try.ntmps41
  go_wp2_with (go_at_call 98; refine (layout_any _).mono ?_; rintro e w3 ⟨rfl, b3⟩)
  have e1 : (w.alloc (.cells #[.int .i64 0, .int .i64 0, .int .i64 0, .int .i64 0, .bool false] 49)).heap.size = w.heap.size + 1 := by simp
  have L0 : ReadLp w ((w.alloc (.cells #[.int .i64 0, .int .i64 0, .int .i64 0, .int .i64 0, .bool false] 49)).alloc (.cells #[.int .i64 0, .int .i64 0, .int .i64 0, .int .i64 0, .bool false] 49)) (readDs x0 y1 y2 y3 y4 y5 0) := by
    have v := DescAt.new (T := 49) (n := 0) (a := 0) (z := 0) (u := 0) (c := false) (w.alloc (.cells #[.int .i64 0, .int .i64 0, .int .i64 0, .int .i64 0, .bool false] 49))
    rw [e1] at v
    have r : DescAt 49 (w.alloc (.cells #[.int .i64 0, .int .i64 0, .int .i64 0, .int .i64 0, .bool false] 49)) w.heap.size 0 0 0 0 false := DescAt.new w
    exact ⟨r.below ((Below.refl _ _).alloc (Nat.le_refl _) _) r.lt, v, ((Below.refl _ _).alloc (Nat.le_refl _) _).alloc (by simp) _⟩
  replace L0 := Lib.hid (L0.call b3)
  clear e1 b3
  go_loopw [14] (fun i wr => ∃ k : Nat, k ≤ 5 ∧ i = .int .i64 k ∧ Hid (ReadLp w wr (readDs x0 y1 y2 y3 y4 y5 k))) (fun i _ => 5 - (intOf i).toNat)
  case atStart => exact ⟨0, by omega, rfl, L0⟩
  case round =>
    clear L0
    obtain ⟨k, hk, hi, H⟩ := hrel
    have hk6 : k = 0 ∨ k = 1 ∨ k = 2 ∨ k = 3 ∨ k = 4 ∨ k = 5 := by omega
    clear hk
    rcases hk6 with rfl | rfl | rfl | rfl | rfl | rfl
    · replace hi : _ = Value.int .i64 0 := hi
      subst hi
      have hix := layout_at0
      go_upto_region 7 with fail
      clear hix
      have L4 := Lib.hid (H.out.call ((Below.refl wr.heap.size wr).alloc (Nat.le_refl _) (.cells #[.func (.func 135) #[] #[], .func (.func 136) #[] #[]] 116)))
      have F4 : (wr.alloc (.cells #[.func (.func 135) #[] #[], .func (.func 136) #[] #[]] 116)).cell? ⟨wr.heap.size, 1, none⟩ = some (.func (.func 136) #[] #[]) := cell_of_row _ wr.heap.size 1 _ _ (0, 0) (heap_alloc_new wr _)
      have hQ : w.heap.size + 1 < wr.heap.size := H.out.var.lt
      clear H
      obtain ⟨J, hJ⟩ : ∃ J, J = wr.heap.size := ⟨_, rfl⟩
      rw [← hJ] at F4 hQ ⊢
      clear hJ
      generalize wr.alloc (.cells #[.func (.func 135) #[] #[], .func (.func 136) #[] #[]] 116) = w4 at L4 F4 ⊢
      have L5 : Hid (ReadLp w w4.drew (readDs x0 y1 y2 y3 y4 y5 0)) := Lib.hid (L4.out.call (Below.drew (Below.refl _ _)))
      have F5 : w4.drew.cell? ⟨J, 1, none⟩ = some (.func (.func 136) #[] #[]) := F4
      clear L4
      have hx : ∀ W, Below w.heap.size w W → W.cell? ⟨b, off, none⟩ = some (.int .i64 x0) := fun W hW => HCW.out W hW 0 (by omega)
      have HX := Lib.hid hx; clear hx
      refine wp_region_held_drew (S := fun w' => w'.cell? ⟨J, 1, none⟩ = some (.func (.func 136) #[] #[]) ∧ w'.cell? ⟨b, off, none⟩ = some (.int .i64 x0)) (by kernel_rfl) (⟨F5, HX.out _ L5.out.below⟩) (fun hHeld => ?_)
      generalize w4.drew = w5 at L5 F5 hHeld ⊢
      refine wpAnyH_take (i := 0) (v := ?_) rfl (by kernel_rfl) (by kernel_rfl) (by kernel_rfl) (fun _ _ _ h => h) (Or.inl ⟨by rfl, ?_⟩) (by assumption) ?_
      rotate_left
      · (intro w hSw; (try dsimp only at hSw); go_simp; (try with_reducible rfl))
      try simp only [List.getElem_toArray, List.getElem_cons_succ, List.getElem_cons_zero, Act.put, List.setIfInBounds_toArray, List.set_cons_zero, List.set_cons_succ]
      refine wpAnyH_take (i := 1) (v := ?_) rfl (by kernel_rfl) (by kernel_rfl) (by kernel_rfl) (fun _ _ _ h => h) (Or.inl ⟨by rfl, ?_⟩) (by assumption) ?_
      rotate_left
      · (intro w hSw; (try dsimp only at hSw); go_simp; (try with_reducible rfl))
      try simp only [List.getElem_toArray, List.getElem_cons_succ, List.getElem_cons_zero, Act.put, List.setIfInBounds_toArray, List.set_cons_zero, List.set_cons_succ]
      refine wpAnyH_take (i := 2) (v := ?_) rfl (by kernel_rfl) (by kernel_rfl) (by kernel_rfl) (fun _ _ _ h => h) (Or.inl ⟨by rfl, ?_⟩) (by assumption) ?_
      rotate_left
      · (intro w hSw; (try dsimp only at hSw); go_simp; (try with_reducible rfl))
      try simp only [List.getElem_toArray, List.getElem_cons_succ, List.getElem_cons_zero, Act.put, List.setIfInBounds_toArray, List.set_cons_zero, List.set_cons_succ]
      refine wpAnyH_take (i := 3) (v := ?_) rfl (by kernel_rfl) (by kernel_rfl) (by kernel_rfl) (fun _ _ _ h => h) (Or.inl ⟨by rfl, ?_⟩) (by assumption) ?_
      rotate_left
      · (intro w hSw; (try dsimp only at hSw); go_simp; (try with_reducible rfl))
      try simp only [List.getElem_toArray, List.getElem_cons_succ, List.getElem_cons_zero, Act.put, List.setIfInBounds_toArray, List.set_cons_zero, List.set_cons_succ]
      refine wpAnyH_take (i := 4) (v := ?_) rfl (by kernel_rfl) (by kernel_rfl) (by kernel_rfl) (fun _ _ _ h => h) (Or.inl ⟨by rfl, ?_⟩) (by assumption) ?_
      rotate_left
      · (intro w hSw; (try dsimp only at hSw); go_simp; (try with_reducible rfl))
      try simp only [List.getElem_toArray, List.getElem_cons_succ, List.getElem_cons_zero, Act.put, List.setIfInBounds_toArray, List.set_cons_zero, List.set_cons_succ]
      refine wpAnyH_take (i := 5) (v := ?_) rfl (by kernel_rfl) (by kernel_rfl) (by kernel_rfl) (fun _ _ _ h => h) (Or.inl ⟨by rfl, ?_⟩) (by assumption) ?_
      rotate_left
      · (intro w hSw; (try dsimp only at hSw); go_simp; (try with_reducible rfl))
      try simp only [List.getElem_toArray, List.getElem_cons_succ, List.getElem_cons_zero, Act.put, List.setIfInBounds_toArray, List.set_cons_zero, List.set_cons_succ]
      refine wpAnyH_ready (rs := [6]) (by kernel_rfl) (by simp) (AllReadyH.cons rfl (fun K hK => ?_) AllReadyH.nil)
      go_simp
      refine (H0.out _ 0 0 0 0 false L5.out.var).mono ?_
      rintro e w6 ⟨rfl, v6, g6⟩
      have L6 : ReadLp w w6 (readDs x0 y1 y2 y3 y4 y5 1) := L5.out.mut v6 g6
      have F6 : w6.cell? ⟨J, 1, none⟩ = some (.func (.func 136) #[] #[]) := g6.cell F5 (by simp; omega)
      replace L6 := Lib.hid L6
      clear v6 g6 F5 L5
      go_wp2_with fail
      refine hK.out _ _ ?_ (fun hHeld => ?_)
      · exact ⟨F6, HX.out _ L6.out.below⟩
      clear hK K
      try simp only [List.getElem_toArray, List.getElem_cons_succ, List.getElem_cons_zero, Act.put, List.setIfInBounds_toArray, List.set_cons_zero, List.set_cons_succ]
      refine wpAnyH_done (by kernel_rfl) ?_ _
      go_wp2_with fail
      go_roundw
      case rel => exact ⟨1, by omega, rfl, L6⟩
      case measure => simp [intOf]
    · replace hi : _ = Value.int .i64 1 := hi
      subst hi
      have hix := layout_at1
      go_upto_region 7 with fail
      clear hix
      have L4 := Lib.hid (H.out.call ((Below.refl wr.heap.size wr).alloc (Nat.le_refl _) (.cells #[.func (.func 137) #[] #[], .func (.func 138) #[] #[]] 116)))
      have F4 : (wr.alloc (.cells #[.func (.func 137) #[] #[], .func (.func 138) #[] #[]] 116)).cell? ⟨wr.heap.size, 1, none⟩ = some (.func (.func 138) #[] #[]) := cell_of_row _ wr.heap.size 1 _ _ (0, 0) (heap_alloc_new wr _)
      have hQ : w.heap.size + 1 < wr.heap.size := H.out.var.lt
      clear H
      obtain ⟨J, hJ⟩ : ∃ J, J = wr.heap.size := ⟨_, rfl⟩
      rw [← hJ] at F4 hQ ⊢
      clear hJ
      generalize wr.alloc (.cells #[.func (.func 137) #[] #[], .func (.func 138) #[] #[]] 116) = w4 at L4 F4 ⊢
      have L5 : Hid (ReadLp w w4.drew (readDs x0 y1 y2 y3 y4 y5 1)) := Lib.hid (L4.out.call (Below.drew (Below.refl _ _)))
      have F5 : w4.drew.cell? ⟨J, 1, none⟩ = some (.func (.func 138) #[] #[]) := F4
      clear L4
      have hx : ∀ W, Below w.heap.size w W → W.cell? ⟨b, off + 1, none⟩ = some (.int .i64 x1) := fun W hW => HCW.out W hW 1 (by omega)
      have HX := Lib.hid hx; clear hx
      refine wp_region_held_drew (S := fun w' => w'.cell? ⟨J, 1, none⟩ = some (.func (.func 138) #[] #[]) ∧ w'.cell? ⟨b, off + 1, none⟩ = some (.int .i64 x1)) (by kernel_rfl) (⟨F5, HX.out _ L5.out.below⟩) (fun hHeld => ?_)
      generalize w4.drew = w5 at L5 F5 hHeld ⊢
      refine wpAnyH_take (i := 0) (v := ?_) rfl (by kernel_rfl) (by kernel_rfl) (by kernel_rfl) (fun _ _ _ h => h) (Or.inl ⟨by rfl, ?_⟩) (by assumption) ?_
      rotate_left
      · (intro w hSw; (try dsimp only at hSw); go_simp; (try with_reducible rfl))
      try simp only [List.getElem_toArray, List.getElem_cons_succ, List.getElem_cons_zero, Act.put, List.setIfInBounds_toArray, List.set_cons_zero, List.set_cons_succ]
      refine wpAnyH_take (i := 1) (v := ?_) rfl (by kernel_rfl) (by kernel_rfl) (by kernel_rfl) (fun _ _ _ h => h) (Or.inl ⟨by rfl, ?_⟩) (by assumption) ?_
      rotate_left
      · (intro w hSw; (try dsimp only at hSw); go_simp; (try with_reducible rfl))
      try simp only [List.getElem_toArray, List.getElem_cons_succ, List.getElem_cons_zero, Act.put, List.setIfInBounds_toArray, List.set_cons_zero, List.set_cons_succ]
      refine wpAnyH_take (i := 2) (v := ?_) rfl (by kernel_rfl) (by kernel_rfl) (by kernel_rfl) (fun _ _ _ h => h) (Or.inl ⟨by rfl, ?_⟩) (by assumption) ?_
      rotate_left
      · (intro w hSw; (try dsimp only at hSw); go_simp; (try with_reducible rfl))
      try simp only [List.getElem_toArray, List.getElem_cons_succ, List.getElem_cons_zero, Act.put, List.setIfInBounds_toArray, List.set_cons_zero, List.set_cons_succ]
      refine wpAnyH_take (i := 3) (v := ?_) rfl (by kernel_rfl) (by kernel_rfl) (by kernel_rfl) (fun _ _ _ h => h) (Or.inl ⟨by rfl, ?_⟩) (by assumption) ?_
      rotate_left
      · (intro w hSw; (try dsimp only at hSw); go_simp; (try with_reducible rfl))
      try simp only [List.getElem_toArray, List.getElem_cons_succ, List.getElem_cons_zero, Act.put, List.setIfInBounds_toArray, List.set_cons_zero, List.set_cons_succ]
      refine wpAnyH_take (i := 4) (v := ?_) rfl (by kernel_rfl) (by kernel_rfl) (by kernel_rfl) (fun _ _ _ h => h) (Or.inl ⟨by rfl, ?_⟩) (by assumption) ?_
      rotate_left
      · (intro w hSw; (try dsimp only at hSw); go_simp; (try with_reducible rfl))
      try simp only [List.getElem_toArray, List.getElem_cons_succ, List.getElem_cons_zero, Act.put, List.setIfInBounds_toArray, List.set_cons_zero, List.set_cons_succ]
      refine wpAnyH_take (i := 5) (v := ?_) rfl (by kernel_rfl) (by kernel_rfl) (by kernel_rfl) (fun _ _ _ h => h) (Or.inl ⟨by rfl, ?_⟩) (by assumption) ?_
      rotate_left
      · (intro w hSw; (try dsimp only at hSw); go_simp; (try with_reducible rfl))
      try simp only [List.getElem_toArray, List.getElem_cons_succ, List.getElem_cons_zero, Act.put, List.setIfInBounds_toArray, List.set_cons_zero, List.set_cons_succ]
      refine wpAnyH_ready (rs := [6]) (by kernel_rfl) (by simp) (AllReadyH.cons rfl (fun K hK => ?_) AllReadyH.nil)
      go_simp
      refine (H1.out _ x0 0 0 0 false L5.out.var).mono ?_
      rintro e w6 ⟨rfl, v6, g6⟩
      have L6 : ReadLp w w6 (readDs x0 y1 y2 y3 y4 y5 2) := L5.out.mut v6 g6
      have F6 : w6.cell? ⟨J, 1, none⟩ = some (.func (.func 138) #[] #[]) := g6.cell F5 (by simp; omega)
      replace L6 := Lib.hid L6
      clear v6 g6 F5 L5
      go_wp2_with fail
      refine hK.out _ _ ?_ (fun hHeld => ?_)
      · exact ⟨F6, HX.out _ L6.out.below⟩
      clear hK K
      try simp only [List.getElem_toArray, List.getElem_cons_succ, List.getElem_cons_zero, Act.put, List.setIfInBounds_toArray, List.set_cons_zero, List.set_cons_succ]
      refine wpAnyH_done (by kernel_rfl) ?_ _
      go_wp2_with fail
      go_roundw
      case rel => exact ⟨2, by omega, rfl, L6⟩
      case measure => simp [intOf]
    · replace hi : _ = Value.int .i64 2 := hi
      subst hi
      have hix := layout_at2
      go_upto_region 7 with fail
      clear hix
      have L4 := Lib.hid (H.out.call ((Below.refl wr.heap.size wr).alloc (Nat.le_refl _) (.cells #[.func (.func 139) #[] #[], .func (.func 140) #[] #[]] 116)))
      have F4 : (wr.alloc (.cells #[.func (.func 139) #[] #[], .func (.func 140) #[] #[]] 116)).cell? ⟨wr.heap.size, 1, none⟩ = some (.func (.func 140) #[] #[]) := cell_of_row _ wr.heap.size 1 _ _ (0, 0) (heap_alloc_new wr _)
      have hQ : w.heap.size + 1 < wr.heap.size := H.out.var.lt
      clear H
      obtain ⟨J, hJ⟩ : ∃ J, J = wr.heap.size := ⟨_, rfl⟩
      rw [← hJ] at F4 hQ ⊢
      clear hJ
      generalize wr.alloc (.cells #[.func (.func 139) #[] #[], .func (.func 140) #[] #[]] 116) = w4 at L4 F4 ⊢
      have L5 : Hid (ReadLp w w4.drew (readDs x0 y1 y2 y3 y4 y5 2)) := Lib.hid (L4.out.call (Below.drew (Below.refl _ _)))
      have F5 : w4.drew.cell? ⟨J, 1, none⟩ = some (.func (.func 140) #[] #[]) := F4
      clear L4
      have hx : ∀ W, Below w.heap.size w W → W.cell? ⟨b, off + 2, none⟩ = some (.int .i64 x2) := fun W hW => HCW.out W hW 2 (by omega)
      have HX := Lib.hid hx; clear hx
      refine wp_region_held_drew (S := fun w' => w'.cell? ⟨J, 1, none⟩ = some (.func (.func 140) #[] #[]) ∧ w'.cell? ⟨b, off + 2, none⟩ = some (.int .i64 x2)) (by kernel_rfl) (⟨F5, HX.out _ L5.out.below⟩) (fun hHeld => ?_)
      generalize w4.drew = w5 at L5 F5 hHeld ⊢
      refine wpAnyH_take (i := 0) (v := ?_) rfl (by kernel_rfl) (by kernel_rfl) (by kernel_rfl) (fun _ _ _ h => h) (Or.inl ⟨by rfl, ?_⟩) (by assumption) ?_
      rotate_left
      · (intro w hSw; (try dsimp only at hSw); go_simp; (try with_reducible rfl))
      try simp only [List.getElem_toArray, List.getElem_cons_succ, List.getElem_cons_zero, Act.put, List.setIfInBounds_toArray, List.set_cons_zero, List.set_cons_succ]
      refine wpAnyH_take (i := 1) (v := ?_) rfl (by kernel_rfl) (by kernel_rfl) (by kernel_rfl) (fun _ _ _ h => h) (Or.inl ⟨by rfl, ?_⟩) (by assumption) ?_
      rotate_left
      · (intro w hSw; (try dsimp only at hSw); go_simp; (try with_reducible rfl))
      try simp only [List.getElem_toArray, List.getElem_cons_succ, List.getElem_cons_zero, Act.put, List.setIfInBounds_toArray, List.set_cons_zero, List.set_cons_succ]
      refine wpAnyH_take (i := 2) (v := ?_) rfl (by kernel_rfl) (by kernel_rfl) (by kernel_rfl) (fun _ _ _ h => h) (Or.inl ⟨by rfl, ?_⟩) (by assumption) ?_
      rotate_left
      · (intro w hSw; (try dsimp only at hSw); go_simp; (try with_reducible rfl))
      try simp only [List.getElem_toArray, List.getElem_cons_succ, List.getElem_cons_zero, Act.put, List.setIfInBounds_toArray, List.set_cons_zero, List.set_cons_succ]
      refine wpAnyH_take (i := 3) (v := ?_) rfl (by kernel_rfl) (by kernel_rfl) (by kernel_rfl) (fun _ _ _ h => h) (Or.inl ⟨by rfl, ?_⟩) (by assumption) ?_
      rotate_left
      · (intro w hSw; (try dsimp only at hSw); go_simp; (try with_reducible rfl))
      try simp only [List.getElem_toArray, List.getElem_cons_succ, List.getElem_cons_zero, Act.put, List.setIfInBounds_toArray, List.set_cons_zero, List.set_cons_succ]
      refine wpAnyH_take (i := 4) (v := ?_) rfl (by kernel_rfl) (by kernel_rfl) (by kernel_rfl) (fun _ _ _ h => h) (Or.inl ⟨by rfl, ?_⟩) (by assumption) ?_
      rotate_left
      · (intro w hSw; (try dsimp only at hSw); go_simp; (try with_reducible rfl))
      try simp only [List.getElem_toArray, List.getElem_cons_succ, List.getElem_cons_zero, Act.put, List.setIfInBounds_toArray, List.set_cons_zero, List.set_cons_succ]
      refine wpAnyH_take (i := 5) (v := ?_) rfl (by kernel_rfl) (by kernel_rfl) (by kernel_rfl) (fun _ _ _ h => h) (Or.inl ⟨by rfl, ?_⟩) (by assumption) ?_
      rotate_left
      · (intro w hSw; (try dsimp only at hSw); go_simp; (try with_reducible rfl))
      try simp only [List.getElem_toArray, List.getElem_cons_succ, List.getElem_cons_zero, Act.put, List.setIfInBounds_toArray, List.set_cons_zero, List.set_cons_succ]
      refine wpAnyH_ready (rs := [6]) (by kernel_rfl) (by simp) (AllReadyH.cons rfl (fun K hK => ?_) AllReadyH.nil)
      go_simp
      refine (H2.out _ x0 y1 y2 0 false L5.out.var).mono ?_
      rintro e w6 ⟨rfl, v6, g6⟩
      have L6 : ReadLp w w6 (readDs x0 y1 y2 y3 y4 y5 3) := L5.out.mut v6 g6
      have F6 : w6.cell? ⟨J, 1, none⟩ = some (.func (.func 140) #[] #[]) := g6.cell F5 (by simp; omega)
      replace L6 := Lib.hid L6
      clear v6 g6 F5 L5
      go_wp2_with fail
      refine hK.out _ _ ?_ (fun hHeld => ?_)
      · exact ⟨F6, HX.out _ L6.out.below⟩
      clear hK K
      try simp only [List.getElem_toArray, List.getElem_cons_succ, List.getElem_cons_zero, Act.put, List.setIfInBounds_toArray, List.set_cons_zero, List.set_cons_succ]
      refine wpAnyH_done (by kernel_rfl) ?_ _
      go_wp2_with fail
      go_roundw
      case rel => exact ⟨3, by omega, rfl, L6⟩
      case measure => simp [intOf]
    · replace hi : _ = Value.int .i64 3 := hi
      subst hi
      have hix := layout_at3
      go_upto_region 7 with fail
      clear hix
      have L4 := Lib.hid (H.out.call ((Below.refl wr.heap.size wr).alloc (Nat.le_refl _) (.cells #[.func (.func 141) #[] #[], .func (.func 142) #[] #[]] 116)))
      have F4 : (wr.alloc (.cells #[.func (.func 141) #[] #[], .func (.func 142) #[] #[]] 116)).cell? ⟨wr.heap.size, 1, none⟩ = some (.func (.func 142) #[] #[]) := cell_of_row _ wr.heap.size 1 _ _ (0, 0) (heap_alloc_new wr _)
      have hQ : w.heap.size + 1 < wr.heap.size := H.out.var.lt
      clear H
      obtain ⟨J, hJ⟩ : ∃ J, J = wr.heap.size := ⟨_, rfl⟩
      rw [← hJ] at F4 hQ ⊢
      clear hJ
      generalize wr.alloc (.cells #[.func (.func 141) #[] #[], .func (.func 142) #[] #[]] 116) = w4 at L4 F4 ⊢
      have L5 : Hid (ReadLp w w4.drew (readDs x0 y1 y2 y3 y4 y5 3)) := Lib.hid (L4.out.call (Below.drew (Below.refl _ _)))
      have F5 : w4.drew.cell? ⟨J, 1, none⟩ = some (.func (.func 142) #[] #[]) := F4
      clear L4
      have hx : ∀ W, Below w.heap.size w W → W.cell? ⟨b, off + 3, none⟩ = some (.int .i64 x3) := fun W hW => HCW.out W hW 3 (by omega)
      have HX := Lib.hid hx; clear hx
      refine wp_region_held_drew (S := fun w' => w'.cell? ⟨J, 1, none⟩ = some (.func (.func 142) #[] #[]) ∧ w'.cell? ⟨b, off + 3, none⟩ = some (.int .i64 x3)) (by kernel_rfl) (⟨F5, HX.out _ L5.out.below⟩) (fun hHeld => ?_)
      generalize w4.drew = w5 at L5 F5 hHeld ⊢
      refine wpAnyH_take (i := 0) (v := ?_) rfl (by kernel_rfl) (by kernel_rfl) (by kernel_rfl) (fun _ _ _ h => h) (Or.inl ⟨by rfl, ?_⟩) (by assumption) ?_
      rotate_left
      · (intro w hSw; (try dsimp only at hSw); go_simp; (try with_reducible rfl))
      try simp only [List.getElem_toArray, List.getElem_cons_succ, List.getElem_cons_zero, Act.put, List.setIfInBounds_toArray, List.set_cons_zero, List.set_cons_succ]
      refine wpAnyH_take (i := 1) (v := ?_) rfl (by kernel_rfl) (by kernel_rfl) (by kernel_rfl) (fun _ _ _ h => h) (Or.inl ⟨by rfl, ?_⟩) (by assumption) ?_
      rotate_left
      · (intro w hSw; (try dsimp only at hSw); go_simp; (try with_reducible rfl))
      try simp only [List.getElem_toArray, List.getElem_cons_succ, List.getElem_cons_zero, Act.put, List.setIfInBounds_toArray, List.set_cons_zero, List.set_cons_succ]
      refine wpAnyH_take (i := 2) (v := ?_) rfl (by kernel_rfl) (by kernel_rfl) (by kernel_rfl) (fun _ _ _ h => h) (Or.inl ⟨by rfl, ?_⟩) (by assumption) ?_
      rotate_left
      · (intro w hSw; (try dsimp only at hSw); go_simp; (try with_reducible rfl))
      try simp only [List.getElem_toArray, List.getElem_cons_succ, List.getElem_cons_zero, Act.put, List.setIfInBounds_toArray, List.set_cons_zero, List.set_cons_succ]
      refine wpAnyH_take (i := 3) (v := ?_) rfl (by kernel_rfl) (by kernel_rfl) (by kernel_rfl) (fun _ _ _ h => h) (Or.inl ⟨by rfl, ?_⟩) (by assumption) ?_
      rotate_left
      · (intro w hSw; (try dsimp only at hSw); go_simp; (try with_reducible rfl))
      try simp only [List.getElem_toArray, List.getElem_cons_succ, List.getElem_cons_zero, Act.put, List.setIfInBounds_toArray, List.set_cons_zero, List.set_cons_succ]
      refine wpAnyH_take (i := 4) (v := ?_) rfl (by kernel_rfl) (by kernel_rfl) (by kernel_rfl) (fun _ _ _ h => h) (Or.inl ⟨by rfl, ?_⟩) (by assumption) ?_
      rotate_left
      · (intro w hSw; (try dsimp only at hSw); go_simp; (try with_reducible rfl))
      try simp only [List.getElem_toArray, List.getElem_cons_succ, List.getElem_cons_zero, Act.put, List.setIfInBounds_toArray, List.set_cons_zero, List.set_cons_succ]
      refine wpAnyH_take (i := 5) (v := ?_) rfl (by kernel_rfl) (by kernel_rfl) (by kernel_rfl) (fun _ _ _ h => h) (Or.inl ⟨by rfl, ?_⟩) (by assumption) ?_
      rotate_left
      · (intro w hSw; (try dsimp only at hSw); go_simp; (try with_reducible rfl))
      try simp only [List.getElem_toArray, List.getElem_cons_succ, List.getElem_cons_zero, Act.put, List.setIfInBounds_toArray, List.set_cons_zero, List.set_cons_succ]
      refine wpAnyH_ready (rs := [6]) (by kernel_rfl) (by simp) (AllReadyH.cons rfl (fun K hK => ?_) AllReadyH.nil)
      go_simp
      refine (H3.out _ x0 y1 y2 false L5.out.var).mono ?_
      rintro e w6 ⟨rfl, v6, g6⟩
      have L6 : ReadLp w w6 (readDs x0 y1 y2 y3 y4 y5 4) := L5.out.mut v6 g6
      have F6 : w6.cell? ⟨J, 1, none⟩ = some (.func (.func 142) #[] #[]) := g6.cell F5 (by simp; omega)
      replace L6 := Lib.hid L6
      clear v6 g6 F5 L5
      go_wp2_with fail
      refine hK.out _ _ ?_ (fun hHeld => ?_)
      · exact ⟨F6, HX.out _ L6.out.below⟩
      clear hK K
      try simp only [List.getElem_toArray, List.getElem_cons_succ, List.getElem_cons_zero, Act.put, List.setIfInBounds_toArray, List.set_cons_zero, List.set_cons_succ]
      refine wpAnyH_done (by kernel_rfl) ?_ _
      go_wp2_with fail
      go_roundw
      case rel => exact ⟨4, by omega, rfl, L6⟩
      case measure => simp [intOf]
    · replace hi : _ = Value.int .i64 4 := hi
      subst hi
      have hix := layout_at4
      go_upto_region 7 with fail
      clear hix
      have L4 := Lib.hid (H.out.call ((Below.refl wr.heap.size wr).alloc (Nat.le_refl _) (.cells #[.func (.func 143) #[] #[], .func (.func 145) #[] #[]] 116)))
      have F4 : (wr.alloc (.cells #[.func (.func 143) #[] #[], .func (.func 145) #[] #[]] 116)).cell? ⟨wr.heap.size, 1, none⟩ = some (.func (.func 145) #[] #[]) := cell_of_row _ wr.heap.size 1 _ _ (0, 0) (heap_alloc_new wr _)
      have hQ : w.heap.size + 1 < wr.heap.size := H.out.var.lt
      clear H
      obtain ⟨J, hJ⟩ : ∃ J, J = wr.heap.size := ⟨_, rfl⟩
      rw [← hJ] at F4 hQ ⊢
      clear hJ
      generalize wr.alloc (.cells #[.func (.func 143) #[] #[], .func (.func 145) #[] #[]] 116) = w4 at L4 F4 ⊢
      have L5 : Hid (ReadLp w w4.drew (readDs x0 y1 y2 y3 y4 y5 4)) := Lib.hid (L4.out.call (Below.drew (Below.refl _ _)))
      have F5 : w4.drew.cell? ⟨J, 1, none⟩ = some (.func (.func 145) #[] #[]) := F4
      clear L4
      have hx : ∀ W, Below w.heap.size w W → W.cell? ⟨b, off + 4, none⟩ = some (.int .i64 x4) := fun W hW => HCW.out W hW 4 (by omega)
      have HX := Lib.hid hx; clear hx
      refine wp_region_held_drew (S := fun w' => w'.cell? ⟨J, 1, none⟩ = some (.func (.func 145) #[] #[]) ∧ w'.cell? ⟨b, off + 4, none⟩ = some (.int .i64 x4)) (by kernel_rfl) (⟨F5, HX.out _ L5.out.below⟩) (fun hHeld => ?_)
      generalize w4.drew = w5 at L5 F5 hHeld ⊢
      refine wpAnyH_take (i := 0) (v := ?_) rfl (by kernel_rfl) (by kernel_rfl) (by kernel_rfl) (fun _ _ _ h => h) (Or.inl ⟨by rfl, ?_⟩) (by assumption) ?_
      rotate_left
      · (intro w hSw; (try dsimp only at hSw); go_simp; (try with_reducible rfl))
      try simp only [List.getElem_toArray, List.getElem_cons_succ, List.getElem_cons_zero, Act.put, List.setIfInBounds_toArray, List.set_cons_zero, List.set_cons_succ]
      refine wpAnyH_take (i := 1) (v := ?_) rfl (by kernel_rfl) (by kernel_rfl) (by kernel_rfl) (fun _ _ _ h => h) (Or.inl ⟨by rfl, ?_⟩) (by assumption) ?_
      rotate_left
      · (intro w hSw; (try dsimp only at hSw); go_simp; (try with_reducible rfl))
      try simp only [List.getElem_toArray, List.getElem_cons_succ, List.getElem_cons_zero, Act.put, List.setIfInBounds_toArray, List.set_cons_zero, List.set_cons_succ]
      refine wpAnyH_take (i := 2) (v := ?_) rfl (by kernel_rfl) (by kernel_rfl) (by kernel_rfl) (fun _ _ _ h => h) (Or.inl ⟨by rfl, ?_⟩) (by assumption) ?_
      rotate_left
      · (intro w hSw; (try dsimp only at hSw); go_simp; (try with_reducible rfl))
      try simp only [List.getElem_toArray, List.getElem_cons_succ, List.getElem_cons_zero, Act.put, List.setIfInBounds_toArray, List.set_cons_zero, List.set_cons_succ]
      refine wpAnyH_take (i := 3) (v := ?_) rfl (by kernel_rfl) (by kernel_rfl) (by kernel_rfl) (fun _ _ _ h => h) (Or.inl ⟨by rfl, ?_⟩) (by assumption) ?_
      rotate_left
      · (intro w hSw; (try dsimp only at hSw); go_simp; (try with_reducible rfl))
      try simp only [List.getElem_toArray, List.getElem_cons_succ, List.getElem_cons_zero, Act.put, List.setIfInBounds_toArray, List.set_cons_zero, List.set_cons_succ]
      refine wpAnyH_take (i := 4) (v := ?_) rfl (by kernel_rfl) (by kernel_rfl) (by kernel_rfl) (fun _ _ _ h => h) (Or.inl ⟨by rfl, ?_⟩) (by assumption) ?_
      rotate_left
      · (intro w hSw; (try dsimp only at hSw); go_simp; (try with_reducible rfl))
      try simp only [List.getElem_toArray, List.getElem_cons_succ, List.getElem_cons_zero, Act.put, List.setIfInBounds_toArray, List.set_cons_zero, List.set_cons_succ]
      refine wpAnyH_take (i := 5) (v := ?_) rfl (by kernel_rfl) (by kernel_rfl) (by kernel_rfl) (fun _ _ _ h => h) (Or.inl ⟨by rfl, ?_⟩) (by assumption) ?_
      rotate_left
      · (intro w hSw; (try dsimp only at hSw); go_simp; (try with_reducible rfl))
      try simp only [List.getElem_toArray, List.getElem_cons_succ, List.getElem_cons_zero, Act.put, List.setIfInBounds_toArray, List.set_cons_zero, List.set_cons_succ]
      refine wpAnyH_ready (rs := [6]) (by kernel_rfl) (by simp) (AllReadyH.cons rfl (fun K hK => ?_) AllReadyH.nil)
      go_simp
      refine (H4.out _ x0 y1 y2 y4 false L5.out.var).mono ?_
      rintro e w6 ⟨rfl, v6, g6⟩
      have L6 : ReadLp w w6 (readDs x0 y1 y2 y3 y4 y5 5) := L5.out.mut v6 g6
      have F6 : w6.cell? ⟨J, 1, none⟩ = some (.func (.func 145) #[] #[]) := g6.cell F5 (by simp; omega)
      replace L6 := Lib.hid L6
      clear v6 g6 F5 L5
      go_wp2_with fail
      refine hK.out _ _ ?_ (fun hHeld => ?_)
      · exact ⟨F6, HX.out _ L6.out.below⟩
      clear hK K
      try simp only [List.getElem_toArray, List.getElem_cons_succ, List.getElem_cons_zero, Act.put, List.setIfInBounds_toArray, List.set_cons_zero, List.set_cons_succ]
      refine wpAnyH_done (by kernel_rfl) ?_ _
      go_wp2_with fail
      go_roundw
      case rel => exact ⟨5, by omega, rfl, L6⟩
      case measure => simp [intOf]
    · replace hi : _ = Value.int .i64 5 := hi
      subst hi
      have hd := H.out.var
      have d0 : wr.cell? ⟨w.heap.size + 1, 0, none⟩ = some (.int .i64 x0) := hd.c0
      have d1 : wr.cell? ⟨w.heap.size + 1, 1, none⟩ = some (.int .i64 y1) := hd.c1
      have d2 : wr.cell? ⟨w.heap.size + 1, 2, none⟩ = some (.int .i64 y2) := hd.c2
      have d3 : wr.cell? ⟨w.heap.size + 1, 3, none⟩ = some (.int .i64 y4) := hd.c3
      have d4 : wr.cell? ⟨w.heap.size + 1, 4, none⟩ = some (.bool y5) := hd.c4
      clear hd
      by_cases hcd : cd = 0
      rotate_left
      · have hz := HBAD.out (fun h => hcd h.1)
        have HZ := Lib.hid hz; clear hz
        have t1 : (cd != 0) = true := by simp [hcd]
        go_wp2_with (go_at_call 36; refine (HDB.out _).mono ?_; rintro e w6 m6; obtain ⟨p6, c6, rfl, o6, r6, b6⟩ := m6.get; clear m6; have L6 := Lib.hid (H.out.call b6); have O6 := Lib.hid o6; have R6 := Lib.hid r6; clear o6 r6 b6; have q0 := L6.out.res.c0; have q1 := L6.out.res.c1; have q2 := L6.out.res.c2; have q3 := L6.out.res.c3; have q4 := L6.out.res.c4; have f0 := L6.out.res.f 0; have f1 := L6.out.res.f 1; have f2 := L6.out.res.f 2; have f3 := L6.out.res.f 3; have f4 := L6.out.res.f 4)
        obtain ⟨SF, BF⟩ := L6.out.fin 0 0 0 0 false
        change bodyPost _ _ _ _ _ (setDesc w6 w.heap.size 0 0 0 0 false)
        clear q0 q1 q2 q3 q4 f0 f1 f2 f3 f4
        generalize setDesc w6 w.heap.size 0 0 0 0 false = wz at SF BF ⊢
        have e0 := SF.c0; have e1 := SF.c1; have e2 := SF.c2; have e3 := SF.c3; have e4 := SF.c4
        clear SF
        exact bodyPost_ret (v := .tuple #[.agg #[.int .i64 0, .int .i64 0, .int .i64 0, .int .i64 0, .bool false], .int .i64 6]) (by simp [results, Try.results41, go_sem, e0, e1, e2, e3, e4]) rfl ⟨by rw [HZ.out]; rfl, BF⟩
      by_cases hys : ys = [x0, x1, x2, x3, x4]
      rotate_left
      · have hz := HBAD.out (fun h => hys h.2)
        have HZ := Lib.hid hz; clear hz
        have hdc : decide (ys = [x0, x1, x2, x3, x4]) = false := decide_eq_false hys
        have HDC := Lib.hid hdc; clear hdc hys
        have t1 : (cd != 0) = false := by simp [hcd]
        go_wp2_with (first | (go_at_call 36; refine (HDB.out _).mono ?_; rintro e w6 m6; obtain ⟨p6, c6, rfl, o6, r6, b6⟩ := m6.get; clear m6; have L6 := Lib.hid (H.out.call b6); have O6 := Lib.hid o6; have R6 := Lib.hid r6; clear o6 r6 b6) | (go_at_call 86; refine (equal_any _ _ _ _ _ _ _ _ _ R6.out (HR.out.keep (fun b o hlt => L6.out.below.cell (p := ⟨b, o, none⟩) hlt)) (by have := HYL.out; omega) (by omega)).mono ?_; rintro e w7 ⟨rfl, q7, rfl⟩; rw [HDC.out]; have L7 := Lib.hid (L6.out.call (below_drewN' (Below.refl _ _) q7)); have q0 := L7.out.res.c0; have q1 := L7.out.res.c1; have q2 := L7.out.res.c2; have q3 := L7.out.res.c3; have q4 := L7.out.res.c4; have f0 := L7.out.res.f 0; have f1 := L7.out.res.f 1; have f2 := L7.out.res.f 2; have f3 := L7.out.res.f 3; have f4 := L7.out.res.f 4))
        obtain ⟨SF, BF⟩ := L7.out.fin 0 0 0 0 false
        change bodyPost _ _ _ _ _ (setDesc (w6.drewN q7) w.heap.size 0 0 0 0 false)
        clear q0 q1 q2 q3 q4 f0 f1 f2 f3 f4
        generalize setDesc (w6.drewN q7) w.heap.size 0 0 0 0 false = wz at SF BF ⊢
        have e0 := SF.c0; have e1 := SF.c1; have e2 := SF.c2; have e3 := SF.c3; have e4 := SF.c4
        clear SF
        exact bodyPost_ret (v := .tuple #[.agg #[.int .i64 0, .int .i64 0, .int .i64 0, .int .i64 0, .bool false], .int .i64 6]) (by simp [results, Try.results41, go_sem, e0, e1, e2, e3, e4]) rfl ⟨by rw [HZ.out]; rfl, BF⟩
      have hz := HGOOD.out hcd hys
      have HZ := Lib.hid hz; clear hz
      have hdc : decide (ys = [x0, x1, x2, x3, x4]) = true := decide_eq_true hys
      have HDC := Lib.hid hdc; clear hdc hys
      have t1 : (cd != 0) = false := by simp [hcd]
      go_wp2_with (first | (go_at_call 36; refine (HDB.out _).mono ?_; rintro e w6 m6; obtain ⟨p6, c6, rfl, o6, r6, b6⟩ := m6.get; clear m6; have L6 := Lib.hid (H.out.call b6); have O6 := Lib.hid o6; have R6 := Lib.hid r6; clear o6 r6 b6) | (go_at_call 86; refine (equal_any _ _ _ _ _ _ _ _ _ R6.out (HR.out.keep (fun b o hlt => L6.out.below.cell (p := ⟨b, o, none⟩) hlt)) (by have := HYL.out; omega) (by omega)).mono ?_; rintro e w7 ⟨rfl, q7, rfl⟩; rw [HDC.out]; have L7 := Lib.hid (L6.out.call (below_drewN' (Below.refl _ _) q7)); have q0 := L7.out.res.c0; have q1 := L7.out.res.c1; have q2 := L7.out.res.c2; have q3 := L7.out.res.c3; have q4 := L7.out.res.c4; have f0 := L7.out.res.f 0; have f1 := L7.out.res.f 1; have f2 := L7.out.res.f 2; have f3 := L7.out.res.f 3; have f4 := L7.out.res.f 4; have hd := L7.out.var; have k0 : (w6.drewN q7).cell? ⟨w.heap.size + 1, 0, none⟩ = some (.int .i64 x0) := hd.c0; have k1 : (w6.drewN q7).cell? ⟨w.heap.size + 1, 1, none⟩ = some (.int .i64 y1) := hd.c1; have k2 : (w6.drewN q7).cell? ⟨w.heap.size + 1, 2, none⟩ = some (.int .i64 y2) := hd.c2; have k3 : (w6.drewN q7).cell? ⟨w.heap.size + 1, 3, none⟩ = some (.int .i64 y4) := hd.c3; have k4 : (w6.drewN q7).cell? ⟨w.heap.size + 1, 4, none⟩ = some (.bool y5) := hd.c4; clear hd))
      clear k0 k1 k2 k3 k4
      obtain ⟨SF, BF⟩ := L7.out.fin x0 y1 y2 y4 y5
      change bodyPost _ _ _ _ _ (setDesc (w6.drewN q7) w.heap.size x0 y1 y2 y4 y5)
      clear q0 q1 q2 q3 q4 f0 f1 f2 f3 f4
      generalize setDesc (w6.drewN q7) w.heap.size x0 y1 y2 y4 y5 = wz at SF BF ⊢
      have e0 := SF.c0; have e1 := SF.c1; have e2 := SF.c2; have e3 := SF.c3; have e4 := SF.c4
      clear SF
      exact bodyPost_ret (v := .tuple #[.agg #[.int .i64 x0, .int .i64 y1, .int .i64 y2, .int .i64 y4, .bool y5], .int .i64 0]) (by simp [results, Try.results41, go_sem, e0, e1, e2, e3, e4]) rfl ⟨by rw [HZ.out], BF⟩
theorem descFromBytes_any (ao : Option Addr) (n cap : Nat) (xs : List Int) (w : World) (hr : Rd w ao n xs) (hn : n ≤ 9223372036854775807) : Calls Try.prog 41 #[.slice ao n cap] w fun e w' => e = .returned (.tuple #[.agg #[.int .i64 (descFrom xs).1.node, .int .i64 (descFrom xs).1.kind, .int .i64 (descFrom xs).1.size, .int .i64 (descFrom xs).1.dur, .bool (descFrom xs).1.chg], .int .i64 (descFrom xs).2]) ∧ Below w.heap.size w w' := by
  by_cases h5 : n = 5
  · subst h5
    obtain ⟨x0, x1, x2, x3, x4, rfl⟩ := list_five hr.len
    obtain ⟨b, off, rfl, -⟩ := hr.here (by omega)
    exact from_5 b off cap x0 x1 x2 x3 x4 w hr
  · exact from_not5 ao n cap xs w h5 hr
end

section
open Go.RowKit

theorem ReadLp.drew {w wr : World} {d : Ds} (h : ReadLp w wr d) : ReadLp w wr.drew d := h.call (Below.drew (Below.refl _ _))
/-- The descriptor's block is laid. -/
theorem ReadLp.lay {w w1 : World} (h : DescAt 49 w1 w.heap.size 0 0 0 0 false) (b : Below w.heap.size w w1) (hs : w1.heap.size = w.heap.size + 1) : ReadLp w (w1.alloc (.cells #[.int .i64 0, .int .i64 0, .int .i64 0, .int .i64 0, .bool false] 49)) ⟨0, 0, 0, 0, false⟩ := by
  have v := DescAt.new (T := 49) (n := 0) (a := 0) (z := 0) (u := 0) (c := false) w1
  rw [hs] at v
  exact ⟨h.below ((Below.refl _ _).alloc (Nat.le_refl _) _) h.lt, v, b.alloc b.size _⟩
theorem ReadLp.sets {w wr : World} {d : Ds} (h : ReadLp w wr d) (n a z u : Int) (c : Bool) : ReadLp w (setDesc wr (w.heap.size + 1) n a z u c) ⟨n, a, z, u, c⟩ :=
  have b := below_desc (B := w.heap.size + 1) (w := wr) (Nat.le_refl _) n a z u c
  ⟨h.res.below b (Nat.lt_succ_self _), h.var.five n a z u c, h.below.trans (b.mono (Nat.le_succ _))⟩
theorem ReadLp.varFin {w wr : World} {d : Ds} (h : ReadLp w wr d) (n a z u : Int) (c : Bool) : DescAt 49 (setDesc wr w.heap.size n a z u c) (w.heap.size + 1) d.node d.kind d.size d.dur d.chg :=
  ((((h.var.other (by omega)).other (by omega)).other (by omega)).other (by omega)).other (by omega)
set_option maxHeartbeats 4000000 in
set_option maxRecDepth 100000 in
set_option linter.unusedVariables false in
set_option linter.unusedSimpArgs false in
theorem l08From_any (b off cap : Nat) (x0 x1 x2 x3 x4 : Int) (w : World) (hr : Rd w (some ⟨b, off, none⟩) 5 [x0, x1, x2, x3, x4]) (hb : isBytes [x0, x1, x2, x3, x4] = true) : Calls Try.prog 102 #[.slice (some ⟨b, off, none⟩) 5 cap] w fun e w' => e = .returned (.tuple #[.agg #[.int .i64 (descRead x0 x1 x2 x3 x4).node, .int .i64 (descRead x0 x1 x2 x3 x4).kind, .int .i64 (descRead x0 x1 x2 x3 x4).size, .int .i64 (descRead x0 x1 x2 x3 x4).dur, .bool (descRead x0 x1 x2 x3 x4).chg], .bool (isDesc (descRead x0 x1 x2 x3 x4) && decide (descBytes (descRead x0 x1 x2 x3 x4) = [x0, x1, x2, x3, x4]))]) ∧ Below w.heap.size w w' := by
  have hcell : ∀ k, k < 5 → w.cell? ⟨b, off + k, none⟩ = some (.int .i64 ([x0, x1, x2, x3, x4].getD k 0)) := by
    obtain ⟨b', off', e, hc⟩ := hr.here (by omega)
    cases e
    exact hc
  have hblt : b < w.heap.size := World.block_lt_of_cell? w _ (hcell 0 (by omega))
  have hcW : ∀ W, Below w.heap.size w W → W.cell? ⟨b, off, none⟩ = some (.int .i64 x0) ∧ W.cell? ⟨b, off + 1, none⟩ = some (.int .i64 x1) ∧ W.cell? ⟨b, off + 2, none⟩ = some (.int .i64 x2) ∧ W.cell? ⟨b, off + 3, none⟩ = some (.int .i64 x3) ∧ W.cell? ⟨b, off + 4, none⟩ = some (.int .i64 x4) := fun W hW =>
    have h := fun k hk => (hW.cell (p := ⟨b, off + k, none⟩) hblt).trans (hcell k hk)
    ⟨h 0 (by omega), h 1 (by omega), h 2 (by omega), h 3 (by omega), h 4 (by omega)⟩
  clear hcell hblt
  have hbb := (isBytes_iff.1 hb).2
  have r1 := hbb x1 (by simp); have r2 := hbb x2 (by simp); have r3 := hbb x3 (by simp)
  unfold descRead
  have k1 : IntKind.i64.wrap (x1.tdiv 64) = x1 / 64 := by rw [Int.tdiv_eq_ediv_of_nonneg r1.1, IntKind.wrap_i64]; omega
  have k2 : x1.tmod 64 = x1 % 64 := by rw [Int.tmod_eq_emod_of_nonneg r1.1]
  obtain ⟨v3, hv3⟩ : ∃ v, 256 * x2 = v := ⟨_, rfl⟩
  have k3 : IntKind.i64.wrap (256 * x2) = v3 := by rw [IntKind.wrap_i64]; omega
  rw [hv3]
  obtain ⟨y4, hy4⟩ : ∃ v, v3 + x3 = v := ⟨_, rfl⟩
  have k4 : IntKind.i64.wrap (v3 + x3) = y4 := by rw [IntKind.wrap_i64]; omega
  rw [hy4]
  clear hv3 hy4
  have k5 : (x4 == 1) = decide (x4 = 1) := rfl
  clear hbb r1 r2 r3 hb
  generalize x1 / 64 = y1 at k1 ⊢
  generalize x1 % 64 = y2 at k2 ⊢
  generalize decide (x4 = 1) = y5 at k5 ⊢
  simp only
  have hdi := fun (W : World) => sIsDescriptor_any x0 y1 y2 y4 y5 W
  have hin : isDesc ⟨x0, y1, y2, y4, y5⟩ = true → descIn ⟨x0, y1, y2, y4, y5⟩ := desc_in
  have hbl := descBytes_len ⟨x0, y1, y2, y4, y5⟩
  have hyb := fun (W : World) (h : descIn ⟨x0, y1, y2, y4, y5⟩) => l08Bytes_any x0 y1 y2 y4 y5 W h
  generalize isDesc ⟨x0, y1, y2, y4, y5⟩ = ok at hdi hin ⊢
  generalize descBytes ⟨x0, y1, y2, y4, y5⟩ = fb at hyb hbl ⊢
  have B0 : Below w.heap.size w (w.alloc (.cells #[.int .i64 0, .int .i64 0, .int .i64 0, .int .i64 0, .bool false] 49)) := (Below.refl _ _).alloc (Nat.le_refl _) _
  have R0 : DescAt 49 (w.alloc (.cells #[.int .i64 0, .int .i64 0, .int .i64 0, .int .i64 0, .bool false] 49)) w.heap.size 0 0 0 0 false := DescAt.new w
  have S0 : (w.alloc (.cells #[.int .i64 0, .int .i64 0, .int .i64 0, .int .i64 0, .bool false] 49)).heap.size = w.heap.size + 1 := by simp
  have HB0 := Lib.hid B0; have HR0 := Lib.hid R0; have HS0 := Lib.hid S0; have HR := Lib.hid hr; have HCW := Lib.hid hcW; have HDI := Lib.hid hdi; have HIN := Lib.hid hin; have HYB := Lib.hid hyb; have HBL := Lib.hid hbl
  clear B0 R0 S0 hr hcW hdi hin hyb hbl
  go_enter Try.func102, Try.ntmps102
  go_upto_region 1 with fail
  generalize w.alloc (.cells #[.int .i64 0, .int .i64 0, .int .i64 0, .int .i64 0, .bool false] 49) = w0 at HB0 HR0 HS0 ⊢
  have HB1 : Hid (Below w.heap.size w w0.drew) := Lib.hid HB0.out.drew
  have HR1 : Hid (DescAt 49 w0.drew w.heap.size 0 0 0 0 false) := HR0
  have HS1 : Hid (w0.drew.heap.size = w.heap.size + 1) := HS0
  clear HB0 HR0 HS0
  refine wp_region_held_drew (S := fun w' => w'.cell? ⟨b, off, none⟩ = some (.int .i64 x0) ∧ w'.cell? ⟨b, off + 1, none⟩ = some (.int .i64 x1) ∧ w'.cell? ⟨b, off + 2, none⟩ = some (.int .i64 x2) ∧ w'.cell? ⟨b, off + 3, none⟩ = some (.int .i64 x3) ∧ w'.cell? ⟨b, off + 4, none⟩ = some (.int .i64 x4)) (by kernel_rfl) (HCW.out _ HB1.out) (fun hHeld => ?_)
  generalize w0.drew = w1 at HB1 HR1 HS1 hHeld ⊢
  refine wpAnyH_take (i := 0) (v := ?_) rfl (by kernel_rfl) (by kernel_rfl) (by kernel_rfl) (fun _ _ _ h => h) (Or.inl ⟨by rfl, ?_⟩) (by assumption) ?_
  rotate_left
  · (intro w hSw; (try dsimp only at hSw); go_simp; (try with_reducible rfl))
  try simp only [List.getElem_toArray, List.getElem_cons_succ, List.getElem_cons_zero, Act.put, List.setIfInBounds_toArray, List.set_cons_zero, List.set_cons_succ]
  refine wpAnyH_take (i := 1) (v := ?_) rfl (by kernel_rfl) (by kernel_rfl) (by kernel_rfl) (fun _ _ _ h => h) (Or.inl ⟨by rfl, ?_⟩) (by assumption) ?_
  rotate_left
  · (intro w hSw; (try dsimp only at hSw); go_simp; (try with_reducible rfl))
  try simp only [List.getElem_toArray, List.getElem_cons_succ, List.getElem_cons_zero, Act.put, List.setIfInBounds_toArray, List.set_cons_zero, List.set_cons_succ]
  refine wpAnyH_take (i := 2) (v := ?_) rfl (by kernel_rfl) (by kernel_rfl) (by kernel_rfl) (fun _ _ _ h => h) (Or.inl ⟨by rfl, ?_⟩) (by assumption) ?_
  rotate_left
  · (intro w hSw; (try dsimp only at hSw); go_simp; (try with_reducible rfl))
  try simp only [List.getElem_toArray, List.getElem_cons_succ, List.getElem_cons_zero, Act.put, List.setIfInBounds_toArray, List.set_cons_zero, List.set_cons_succ]
  refine wpAnyH_take (i := 3) (v := ?_) rfl (by kernel_rfl) (by kernel_rfl) (by kernel_rfl) (fun _ _ _ h => h) (Or.inl ⟨by rfl, ?_⟩) (by assumption) ?_
  rotate_left
  · (intro w hSw; (try dsimp only at hSw); go_simp; (try with_reducible rfl))
  try simp only [List.getElem_toArray, List.getElem_cons_succ, List.getElem_cons_zero, Act.put, List.setIfInBounds_toArray, List.set_cons_zero, List.set_cons_succ]
  refine wpAnyH_take (i := 4) (v := ?_) rfl (by kernel_rfl) (by kernel_rfl) (by kernel_rfl) (fun _ _ _ h => h) (Or.inl ⟨by rfl, ?_⟩) (by assumption) ?_
  rotate_left
  · (intro w hSw; (try dsimp only at hSw); go_simp; (try with_reducible rfl))
  try simp only [List.getElem_toArray, List.getElem_cons_succ, List.getElem_cons_zero, Act.put, List.setIfInBounds_toArray, List.set_cons_zero, List.set_cons_succ]
  refine wpAnyH_take (i := 5) (v := ?_) rfl (by kernel_rfl) (by kernel_rfl) (by kernel_rfl) (fun _ _ _ h => h) (Or.inl ⟨by rfl, ?_⟩) (by assumption) ?_
  rotate_left
  · (intro w hSw; (try dsimp only at hSw); go_simp; (try with_reducible rfl))
  try simp only [List.getElem_toArray, List.getElem_cons_succ, List.getElem_cons_zero, Act.put, List.setIfInBounds_toArray, List.set_cons_zero, List.set_cons_succ]
  refine wpAnyH_take (i := 6) (v := ?_) rfl (by kernel_rfl) (by kernel_rfl) (by kernel_rfl) (fun _ _ _ h => h) (Or.inl ⟨by rfl, ?_⟩) (by assumption) ?_
  rotate_left
  · (intro w hSw; (try dsimp only at hSw); go_simp; (try with_reducible rfl))
  try simp only [List.getElem_toArray, List.getElem_cons_succ, List.getElem_cons_zero, Act.put, List.setIfInBounds_toArray, List.set_cons_zero, List.set_cons_succ]
  refine wpAnyH_take (i := 7) (v := ?_) rfl (by kernel_rfl) (by kernel_rfl) (by kernel_rfl) (fun _ _ _ h => h) (Or.inl ⟨by rfl, ?_⟩) (by assumption) ?_
  rotate_left
  · (intro w hSw; (try dsimp only at hSw); go_simp; (try with_reducible rfl))
  try simp only [List.getElem_toArray, List.getElem_cons_succ, List.getElem_cons_zero, Act.put, List.setIfInBounds_toArray, List.set_cons_zero, List.set_cons_succ]
  refine wpAnyH_take (i := 8) (v := ?_) rfl (by kernel_rfl) (by kernel_rfl) (by kernel_rfl) (fun _ _ _ h => h) (Or.inl ⟨by rfl, ?_⟩) (by assumption) ?_
  rotate_left
  · (intro w hSw; (try dsimp only at hSw); go_simp; (try with_reducible rfl))
  try simp only [List.getElem_toArray, List.getElem_cons_succ, List.getElem_cons_zero, Act.put, List.setIfInBounds_toArray, List.set_cons_zero, List.set_cons_succ]
  refine wpAnyH_take (i := 9) (v := ?_) rfl (by kernel_rfl) (by kernel_rfl) (by kernel_rfl) (fun _ _ _ h => h) (Or.inl ⟨by rfl, ?_⟩) (by assumption) ?_
  rotate_left
  · (intro w hSw; (try dsimp only at hSw); go_simp; (try with_reducible rfl))
  try simp only [List.getElem_toArray, List.getElem_cons_succ, List.getElem_cons_zero, Act.put, List.setIfInBounds_toArray, List.set_cons_zero, List.set_cons_succ]
  refine wpAnyH_take (i := 10) (v := ?_) rfl (by kernel_rfl) (by kernel_rfl) (by kernel_rfl) (fun _ _ _ h => h) (Or.inl ⟨by rfl, ?_⟩) (by assumption) ?_
  rotate_left
  · (intro w hSw; (try dsimp only at hSw); go_simp; (try with_reducible rfl))
  try simp only [List.getElem_toArray, List.getElem_cons_succ, List.getElem_cons_zero, Act.put, List.setIfInBounds_toArray, List.set_cons_zero, List.set_cons_succ]
  refine wpAnyH_take (i := 11) (v := ?_) rfl (by kernel_rfl) (by kernel_rfl) (by kernel_rfl) (fun _ _ _ h => h) (Or.inl ⟨by rfl, ?_⟩) (by assumption) ?_
  rotate_left
  · (intro w hSw; (try dsimp only at hSw); go_simp; (try with_reducible rfl))
  try simp only [List.getElem_toArray, List.getElem_cons_succ, List.getElem_cons_zero, Act.put, List.setIfInBounds_toArray, List.set_cons_zero, List.set_cons_succ]
  refine wpAnyH_take (i := 12) (v := ?_) rfl (by kernel_rfl) (by kernel_rfl) (by kernel_rfl) (fun _ _ _ h => h) (Or.inl ⟨by rfl, ?_⟩) (by assumption) ?_
  rotate_left
  · (intro w hSw; (try dsimp only at hSw); go_simp; (try with_reducible rfl))
  try simp only [List.getElem_toArray, List.getElem_cons_succ, List.getElem_cons_zero, Act.put, List.setIfInBounds_toArray, List.set_cons_zero, List.set_cons_succ]
  refine wpAnyH_take (i := 13) (v := ?_) rfl (by kernel_rfl) (by kernel_rfl) (by kernel_rfl) (fun _ _ _ h => h) (Or.inl ⟨by rfl, ?_⟩) (by assumption) ?_
  rotate_left
  · (intro w hSw; (try dsimp only at hSw); go_simp; (try with_reducible rfl))
  try simp only [List.getElem_toArray, List.getElem_cons_succ, List.getElem_cons_zero, Act.put, List.setIfInBounds_toArray, List.set_cons_zero, List.set_cons_succ]
  refine wpAnyH_take (i := 14) (v := ?_) rfl (by kernel_rfl) (by kernel_rfl) (by kernel_rfl) (fun _ _ _ h => h) (Or.inl ⟨by rfl, ?_⟩) (by assumption) ?_
  rotate_left
  · (intro w hSw; (try dsimp only at hSw); go_simp; (try with_reducible rfl))
  try simp only [List.getElem_toArray, List.getElem_cons_succ, List.getElem_cons_zero, Act.put, List.setIfInBounds_toArray, List.set_cons_zero, List.set_cons_succ]
  refine wpAnyH_take (i := 15) (v := ?_) rfl (by kernel_rfl) (by kernel_rfl) (by kernel_rfl) (fun _ _ _ h => h) (Or.inl ⟨by rfl, ?_⟩) (by assumption) ?_
  rotate_left
  · (intro w hSw; (try dsimp only at hSw); go_simp; (try with_reducible rfl))
  try simp only [List.getElem_toArray, List.getElem_cons_succ, List.getElem_cons_zero, Act.put, List.setIfInBounds_toArray, List.set_cons_zero, List.set_cons_succ]
  refine wpAnyH_take (i := 16) (v := ?_) rfl (by kernel_rfl) (by kernel_rfl) (by kernel_rfl) (fun _ _ _ h => h) (Or.inl ⟨by rfl, ?_⟩) (by assumption) ?_
  rotate_left
  · (intro w hSw; (try dsimp only at hSw); go_simp; (try with_reducible rfl))
  try simp only [List.getElem_toArray, List.getElem_cons_succ, List.getElem_cons_zero, Act.put, List.setIfInBounds_toArray, List.set_cons_zero, List.set_cons_succ]
  refine wpAnyH_take (i := 17) (v := ?_) rfl (by kernel_rfl) (by kernel_rfl) (by kernel_rfl) (fun _ _ _ h => h) (Or.inl ⟨by rfl, ?_⟩) (by assumption) ?_
  rotate_left
  · (intro w hSw; (try dsimp only at hSw); go_simp; (try with_reducible rfl))
  try simp only [List.getElem_toArray, List.getElem_cons_succ, List.getElem_cons_zero, Act.put, List.setIfInBounds_toArray, List.set_cons_zero, List.set_cons_succ]
  refine wpAnyH_take (i := 18) (v := ?_) rfl (by kernel_rfl) (by kernel_rfl) (by kernel_rfl) (fun _ _ _ h => h) (Or.inl ⟨by rfl, ?_⟩) (by assumption) ?_
  rotate_left
  · (intro w hSw; (try dsimp only at hSw); go_simp; (try with_reducible rfl))
  try simp only [List.getElem_toArray, List.getElem_cons_succ, List.getElem_cons_zero, Act.put, List.setIfInBounds_toArray, List.set_cons_zero, List.set_cons_succ]
  refine wpAnyH_take (i := 19) (v := ?_) rfl (by kernel_rfl) (by kernel_rfl) (by kernel_rfl) (fun _ _ _ h => h) (Or.inl ⟨by rfl, ?_⟩) (by assumption) ?_
  rotate_left
  · (intro w hSw; (try dsimp only at hSw); go_simp; (try with_reducible rfl))
  try simp only [List.getElem_toArray, List.getElem_cons_succ, List.getElem_cons_zero, Act.put, List.setIfInBounds_toArray, List.set_cons_zero, List.set_cons_succ]
  refine wpAnyH_take (i := 20) (v := ?_) rfl (by kernel_rfl) (by kernel_rfl) (by kernel_rfl) (fun _ _ _ h => h) (Or.inl ⟨by rfl, ?_⟩) (by assumption) ?_
  rotate_left
  · (intro w hSw; (try dsimp only at hSw); go_simp; (try with_reducible rfl))
  try simp only [List.getElem_toArray, List.getElem_cons_succ, List.getElem_cons_zero, Act.put, List.setIfInBounds_toArray, List.set_cons_zero, List.set_cons_succ]
  refine wpAnyH_take (i := 21) (v := ?_) rfl (by kernel_rfl) (by kernel_rfl) (by kernel_rfl) (fun _ _ _ h => h) (Or.inl ⟨by rfl, ?_⟩) (by assumption) ?_
  rotate_left
  · (intro w hSw; (try dsimp only at hSw); go_simp; (try with_reducible rfl))
  try simp only [List.getElem_toArray, List.getElem_cons_succ, List.getElem_cons_zero, Act.put, List.setIfInBounds_toArray, List.set_cons_zero, List.set_cons_succ]
  refine wpAnyH_take (i := 22) (v := ?_) rfl (by kernel_rfl) (by kernel_rfl) (by kernel_rfl) (fun _ _ _ h => h) (Or.inl ⟨by rfl, ?_⟩) (by assumption) ?_
  rotate_left
  · (intro w hSw; (try dsimp only at hSw); go_simp; (try with_reducible rfl))
  try simp only [List.getElem_toArray, List.getElem_cons_succ, List.getElem_cons_zero, Act.put, List.setIfInBounds_toArray, List.set_cons_zero, List.set_cons_succ]
  refine wpAnyH_take (i := 23) (v := ?_) rfl (by kernel_rfl) (by kernel_rfl) (by kernel_rfl) (fun _ _ _ h => h) (Or.inl ⟨by rfl, ?_⟩) (by assumption) ?_
  rotate_left
  · (intro w hSw; (try dsimp only at hSw); go_simp; (try with_reducible rfl))
  try simp only [List.getElem_toArray, List.getElem_cons_succ, List.getElem_cons_zero, Act.put, List.setIfInBounds_toArray, List.set_cons_zero, List.set_cons_succ]
  refine wpAnyH_ready (rs := [24]) (by kernel_rfl) (by simp) (AllReadyH.cons rfl (fun K hK => ?_) AllReadyH.nil)
  go_simp
  have L2 := Lib.hid (ReadLp.lay HR1.out HB1.out HS1.out)
  rw [show w1.heap.size = w.heap.size + 1 from HS1.out]
  generalize w1.alloc (.cells #[.int .i64 0, .int .i64 0, .int .i64 0, .int .i64 0, .bool false] 49) = w2 at L2 ⊢
  refine hK.out _ _ ?_ (fun hHeld => ?_)
  · exact HCW.out _ L2.out.below
  clear hK K
  try simp only [List.getElem_toArray, List.getElem_cons_succ, List.getElem_cons_zero, Act.put, List.setIfInBounds_toArray, List.set_cons_zero, List.set_cons_succ]
  have q0 := L2.out.var.c0
  have q1 := L2.out.var.c1
  have q2 := L2.out.var.c2
  have q3 := L2.out.var.c3
  have q4 := L2.out.var.c4
  have f0 := L2.out.var.f 0
  have f1 := L2.out.var.f 1
  have f2 := L2.out.var.f 2
  have f3 := L2.out.var.f 3
  have f4 := L2.out.var.f 4
  refine wpAnyH_ready (rs := [25]) (by kernel_rfl) (by simp) (AllReadyH.cons rfl (fun K hK => ?_) AllReadyH.nil)
  go_simp
  change K _ (setDesc w2 (w.heap.size + 1) x0 y1 y2 y4 y5)
  have L3 := Lib.hid (L2.out.sets x0 y1 y2 y4 y5)
  clear q0 q1 q2 q3 q4 f0 f1 f2 f3 f4 L2
  generalize setDesc w2 (w.heap.size + 1) x0 y1 y2 y4 y5 = w3 at L3 ⊢
  refine hK.out _ _ ?_ (fun hHeld => ?_)
  · exact HCW.out _ L3.out.below
  clear hK K
  try simp only [List.getElem_toArray, List.getElem_cons_succ, List.getElem_cons_zero, Act.put, List.setIfInBounds_toArray, List.set_cons_zero, List.set_cons_succ]
  refine wpAnyH_done (by kernel_rfl) ?_ _
  clear k1 k2 k3 k4 k5 HB1 HR1 HS1
  go_upto_region 2 with fail
  have L4 : Hid (ReadLp w w3.drew ⟨x0, y1, y2, y4, y5⟩) := Lib.hid L3.out.drew
  clear L3
  cases ok
  · refine wp_region_held_drew (S := fun w' => w'.cell? ⟨(w.heap.size + 1), 0, none⟩ = some (.int .i64 x0) ∧ w'.cell? ⟨(w.heap.size + 1), 1, none⟩ = some (.int .i64 y1) ∧ w'.cell? ⟨(w.heap.size + 1), 2, none⟩ = some (.int .i64 y2) ∧ w'.cell? ⟨(w.heap.size + 1), 3, none⟩ = some (.int .i64 y4) ∧ w'.cell? ⟨(w.heap.size + 1), 4, none⟩ = some (.bool y5)) (by kernel_rfl) (⟨L4.out.var.c0, L4.out.var.c1, L4.out.var.c2, L4.out.var.c3, L4.out.var.c4⟩) (fun hHeld => ?_)
    generalize w3.drew = w4 at L4 hHeld ⊢
    refine wpAnyH_take (i := 0) (v := ?_) rfl (by kernel_rfl) (by kernel_rfl) (by kernel_rfl) (fun _ _ _ h => h) (Or.inl ⟨by rfl, ?_⟩) (by assumption) ?_
    rotate_left
    · (intro w hSw; (try dsimp only at hSw); go_simp; (try with_reducible rfl))
    try simp only [List.getElem_toArray, List.getElem_cons_succ, List.getElem_cons_zero, Act.put, List.setIfInBounds_toArray, List.set_cons_zero, List.set_cons_succ]
    refine wpAnyH_take (i := 1) (v := ?_) rfl (by kernel_rfl) (by kernel_rfl) (by kernel_rfl) (fun _ _ _ h => h) (Or.inl ⟨by rfl, ?_⟩) (by assumption) ?_
    rotate_left
    · (intro w hSw; (try dsimp only at hSw); go_simp; (try with_reducible rfl))
    try simp only [List.getElem_toArray, List.getElem_cons_succ, List.getElem_cons_zero, Act.put, List.setIfInBounds_toArray, List.set_cons_zero, List.set_cons_succ]
    refine wpAnyH_ready (rs := [2]) (by kernel_rfl) (by simp) (AllReadyH.cons rfl (fun K hK => ?_) AllReadyH.nil)
    go_simp
    refine (HDI.out _).mono ?_
    rintro e w5 ⟨rfl, b5⟩
    have L5 := Lib.hid (L4.out.call b5)
    clear b5
    go_wp2_with fail
    refine hK.out _ _ ?_ (fun hHeld => ?_)
    · exact ⟨L5.out.var.c0, L5.out.var.c1, L5.out.var.c2, L5.out.var.c3, L5.out.var.c4⟩
    clear hK K
    try simp only [List.getElem_toArray, List.getElem_cons_succ, List.getElem_cons_zero, Act.put, List.setIfInBounds_toArray, List.set_cons_zero, List.set_cons_succ]
    refine wpAnyH_take (i := 3) (v := ?_) rfl (by kernel_rfl) (by kernel_rfl) (by kernel_rfl) (fun _ _ _ h => h) (Or.inl ⟨by rfl, ?_⟩) (by assumption) ?_
    rotate_left
    · (intro w hSw; (try dsimp only at hSw); go_simp; (try with_reducible rfl))
    try simp only [List.getElem_toArray, List.getElem_cons_succ, List.getElem_cons_zero, Act.put, List.setIfInBounds_toArray, List.set_cons_zero, List.set_cons_succ]
    refine wpAnyH_take (i := 4) (v := undef) rfl (by kernel_rfl) (by kernel_rfl) (by kernel_rfl) (fun _ _ _ h => h) (Or.inr ⟨by rfl, rfl⟩) (by assumption) ?_
    try simp only [List.getElem_toArray, List.getElem_cons_succ, List.getElem_cons_zero, Act.put, List.setIfInBounds_toArray, List.set_cons_zero, List.set_cons_succ]
    refine wpAnyH_take (i := 5) (v := undef) rfl (by kernel_rfl) (by kernel_rfl) (by kernel_rfl) (fun _ _ _ h => h) (Or.inr ⟨by rfl, rfl⟩) (by assumption) ?_
    try simp only [List.getElem_toArray, List.getElem_cons_succ, List.getElem_cons_zero, Act.put, List.setIfInBounds_toArray, List.set_cons_zero, List.set_cons_succ]
    refine wpAnyH_take (i := 6) (v := undef) rfl (by kernel_rfl) (by kernel_rfl) (by kernel_rfl) (fun _ _ _ h => h) (Or.inr ⟨by rfl, rfl⟩) (by assumption) ?_
    try simp only [List.getElem_toArray, List.getElem_cons_succ, List.getElem_cons_zero, Act.put, List.setIfInBounds_toArray, List.set_cons_zero, List.set_cons_succ]
    refine wpAnyH_take (i := 7) (v := undef) rfl (by kernel_rfl) (by kernel_rfl) (by kernel_rfl) (fun _ _ _ h => h) (Or.inr ⟨by rfl, rfl⟩) (by assumption) ?_
    try simp only [List.getElem_toArray, List.getElem_cons_succ, List.getElem_cons_zero, Act.put, List.setIfInBounds_toArray, List.set_cons_zero, List.set_cons_succ]
    refine wpAnyH_take (i := 8) (v := ?_) rfl (by kernel_rfl) (by kernel_rfl) (by kernel_rfl) (fun _ _ _ h => h) (Or.inl ⟨by rfl, ?_⟩) (by assumption) ?_
    rotate_left
    · (intro w hSw; (try dsimp only at hSw); go_simp; (try with_reducible rfl))
    try simp only [List.getElem_toArray, List.getElem_cons_succ, List.getElem_cons_zero, Act.put, List.setIfInBounds_toArray, List.set_cons_zero, List.set_cons_succ]
    have d0 := L5.out.res.c0
    have d1 := L5.out.res.c1
    have d2 := L5.out.res.c2
    have d3 := L5.out.res.c3
    have d4 := L5.out.res.c4
    have f0 := L5.out.res.f 0
    have f1 := L5.out.res.f 1
    have f2 := L5.out.res.f 2
    have f3 := L5.out.res.f 3
    have f4 := L5.out.res.f 4
    have VF := L5.out.varFin x0 y1 y2 y4 y5
    refine wpAnyH_ready (rs := [9]) (by kernel_rfl) (by simp) (AllReadyH.cons rfl (fun K hK => ?_) AllReadyH.nil)
    go_simp
    clear d0 d1 d2 d3 d4 f0 f1 f2 f3 f4
    change K _ (setDesc w5 w.heap.size x0 y1 y2 y4 y5)
    obtain ⟨SF, BF⟩ := L5.out.fin x0 y1 y2 y4 y5
    generalize setDesc w5 w.heap.size x0 y1 y2 y4 y5 = wz at SF BF VF ⊢
    refine hK.out _ _ ?_ (fun hHeld => ?_)
    · exact ⟨VF.c0, VF.c1, VF.c2, VF.c3, VF.c4⟩
    clear hK K VF
    try simp only [List.getElem_toArray, List.getElem_cons_succ, List.getElem_cons_zero, Act.put, List.setIfInBounds_toArray, List.set_cons_zero, List.set_cons_succ]
    refine wpAnyH_take (i := 10) (v := ?_) rfl (by kernel_rfl) (by kernel_rfl) (by kernel_rfl) (fun _ _ _ h => h) (Or.inl ⟨by rfl, ?_⟩) (by assumption) ?_
    rotate_left
    · (intro w hSw; (try dsimp only at hSw); go_simp; (try with_reducible rfl))
    try simp only [List.getElem_toArray, List.getElem_cons_succ, List.getElem_cons_zero, Act.put, List.setIfInBounds_toArray, List.set_cons_zero, List.set_cons_succ]
    refine wpAnyH_done (by kernel_rfl) ?_ _
    have e0 := SF.c0
    have e1 := SF.c1
    have e2 := SF.c2
    have e3 := SF.c3
    have e4 := SF.c4
    go_wp2_with fail
    exact bodyPost_ret (v := .tuple #[.agg #[.int .i64 x0, .int .i64 y1, .int .i64 y2, .int .i64 y4, .bool y5], .bool false]) (by simp [results, Try.results102, go_sem, e0, e1, e2, e3, e4]) rfl ⟨by rfl, BF⟩
  · refine wp_region_held_drew (S := fun w' => w'.cell? ⟨(w.heap.size + 1), 0, none⟩ = some (.int .i64 x0) ∧ w'.cell? ⟨(w.heap.size + 1), 1, none⟩ = some (.int .i64 y1) ∧ w'.cell? ⟨(w.heap.size + 1), 2, none⟩ = some (.int .i64 y2) ∧ w'.cell? ⟨(w.heap.size + 1), 3, none⟩ = some (.int .i64 y4) ∧ w'.cell? ⟨(w.heap.size + 1), 4, none⟩ = some (.bool y5)) (by kernel_rfl) (⟨L4.out.var.c0, L4.out.var.c1, L4.out.var.c2, L4.out.var.c3, L4.out.var.c4⟩) (fun hHeld => ?_)
    generalize w3.drew = w4 at L4 hHeld ⊢
    refine wpAnyH_take (i := 0) (v := ?_) rfl (by kernel_rfl) (by kernel_rfl) (by kernel_rfl) (fun _ _ _ h => h) (Or.inl ⟨by rfl, ?_⟩) (by assumption) ?_
    rotate_left
    · (intro w hSw; (try dsimp only at hSw); go_simp; (try with_reducible rfl))
    try simp only [List.getElem_toArray, List.getElem_cons_succ, List.getElem_cons_zero, Act.put, List.setIfInBounds_toArray, List.set_cons_zero, List.set_cons_succ]
    refine wpAnyH_take (i := 1) (v := ?_) rfl (by kernel_rfl) (by kernel_rfl) (by kernel_rfl) (fun _ _ _ h => h) (Or.inl ⟨by rfl, ?_⟩) (by assumption) ?_
    rotate_left
    · (intro w hSw; (try dsimp only at hSw); go_simp; (try with_reducible rfl))
    try simp only [List.getElem_toArray, List.getElem_cons_succ, List.getElem_cons_zero, Act.put, List.setIfInBounds_toArray, List.set_cons_zero, List.set_cons_succ]
    refine wpAnyH_ready (rs := [2]) (by kernel_rfl) (by simp) (AllReadyH.cons rfl (fun K hK => ?_) AllReadyH.nil)
    go_simp
    refine (HDI.out _).mono ?_
    rintro e w5 ⟨rfl, b5⟩
    have L5 := Lib.hid (L4.out.call b5)
    clear b5
    go_wp2_with fail
    refine hK.out _ _ ?_ (fun hHeld => ?_)
    · exact ⟨L5.out.var.c0, L5.out.var.c1, L5.out.var.c2, L5.out.var.c3, L5.out.var.c4⟩
    clear hK K
    try simp only [List.getElem_toArray, List.getElem_cons_succ, List.getElem_cons_zero, Act.put, List.setIfInBounds_toArray, List.set_cons_zero, List.set_cons_succ]
    refine wpAnyH_take (i := 3) (v := ?_) rfl (by kernel_rfl) (by kernel_rfl) (by kernel_rfl) (fun _ _ _ h => h) (Or.inl ⟨by rfl, ?_⟩) (by assumption) ?_
    rotate_left
    · (intro w hSw; (try dsimp only at hSw); go_simp; (try with_reducible rfl))
    try simp only [List.getElem_toArray, List.getElem_cons_succ, List.getElem_cons_zero, Act.put, List.setIfInBounds_toArray, List.set_cons_zero, List.set_cons_succ]
    refine wpAnyH_take (i := 4) (v := ?_) rfl (by kernel_rfl) (by kernel_rfl) (by kernel_rfl) (fun _ _ _ h => h) (Or.inl ⟨by rfl, ?_⟩) (by assumption) ?_
    rotate_left
    · (intro w hSw; (try dsimp only at hSw); go_simp; (try with_reducible rfl))
    try simp only [List.getElem_toArray, List.getElem_cons_succ, List.getElem_cons_zero, Act.put, List.setIfInBounds_toArray, List.set_cons_zero, List.set_cons_succ]
    refine wpAnyH_take (i := 6) (v := ?_) rfl (by kernel_rfl) (by kernel_rfl) (by kernel_rfl) (fun _ _ _ h => h) (Or.inl ⟨by rfl, ?_⟩) (by assumption) ?_
    rotate_left
    · (intro w hSw; (try dsimp only at hSw); go_simp; (try with_reducible rfl))
    try simp only [List.getElem_toArray, List.getElem_cons_succ, List.getElem_cons_zero, Act.put, List.setIfInBounds_toArray, List.set_cons_zero, List.set_cons_succ]
    refine wpAnyH_ready (rs := [5]) (by kernel_rfl) (by simp) (AllReadyH.cons rfl (fun K hK => ?_) AllReadyH.nil)
    go_simp
    refine (HYB.out _ (HIN.out (by first | exact rfl | trivial))).mono ?_
    rintro e w6 m6
    obtain ⟨p6, c6, rfl, -, r6, b6⟩ := m6.get
    have L6 := Lib.hid (L5.out.call b6)
    have R6 := Lib.hid r6
    clear b6 m6 r6
    go_wp2_with fail
    refine hK.out _ _ ?_ (fun hHeld => ?_)
    · exact ⟨L6.out.var.c0, L6.out.var.c1, L6.out.var.c2, L6.out.var.c3, L6.out.var.c4⟩
    clear hK K
    try simp only [List.getElem_toArray, List.getElem_cons_succ, List.getElem_cons_zero, Act.put, List.setIfInBounds_toArray, List.set_cons_zero, List.set_cons_succ]
    refine wpAnyH_ready (rs := [7]) (by kernel_rfl) (by simp) (AllReadyH.cons rfl (fun K hK => ?_) AllReadyH.nil)
    go_simp
    refine (same_any _ _ _ _ _ _ _ _ _ R6.out (HR.out.keep (fun b o hlt => L6.out.below.cell (p := ⟨b, o, none⟩) hlt)) (by have := HBL.out; omega) (by omega)).mono ?_
    rintro e w7 ⟨rfl, q7, rfl⟩
    have L7 := Lib.hid (L6.out.call (below_drewN' (Below.refl _ _) q7))
    go_wp2_with fail
    refine hK.out _ _ ?_ (fun hHeld => ?_)
    · exact ⟨L7.out.var.c0, L7.out.var.c1, L7.out.var.c2, L7.out.var.c3, L7.out.var.c4⟩
    clear hK K
    try simp only [List.getElem_toArray, List.getElem_cons_succ, List.getElem_cons_zero, Act.put, List.setIfInBounds_toArray, List.set_cons_zero, List.set_cons_succ]
    refine wpAnyH_take (i := 8) (v := ?_) rfl (by kernel_rfl) (by kernel_rfl) (by kernel_rfl) (fun _ _ _ h => h) (Or.inl ⟨by rfl, ?_⟩) (by assumption) ?_
    rotate_left
    · (intro w hSw; (try dsimp only at hSw); go_simp; (try with_reducible rfl))
    try simp only [List.getElem_toArray, List.getElem_cons_succ, List.getElem_cons_zero, Act.put, List.setIfInBounds_toArray, List.set_cons_zero, List.set_cons_succ]
    have d0 := L7.out.res.c0
    have d1 := L7.out.res.c1
    have d2 := L7.out.res.c2
    have d3 := L7.out.res.c3
    have d4 := L7.out.res.c4
    have f0 := L7.out.res.f 0
    have f1 := L7.out.res.f 1
    have f2 := L7.out.res.f 2
    have f3 := L7.out.res.f 3
    have f4 := L7.out.res.f 4
    have VF := L7.out.varFin x0 y1 y2 y4 y5
    refine wpAnyH_ready (rs := [9]) (by kernel_rfl) (by simp) (AllReadyH.cons rfl (fun K hK => ?_) AllReadyH.nil)
    go_simp
    clear d0 d1 d2 d3 d4 f0 f1 f2 f3 f4
    change K _ (setDesc (w6.drewN q7) w.heap.size x0 y1 y2 y4 y5)
    obtain ⟨SF, BF⟩ := L7.out.fin x0 y1 y2 y4 y5
    generalize setDesc (w6.drewN q7) w.heap.size x0 y1 y2 y4 y5 = wz at SF BF VF ⊢
    refine hK.out _ _ ?_ (fun hHeld => ?_)
    · exact ⟨VF.c0, VF.c1, VF.c2, VF.c3, VF.c4⟩
    clear hK K VF
    try simp only [List.getElem_toArray, List.getElem_cons_succ, List.getElem_cons_zero, Act.put, List.setIfInBounds_toArray, List.set_cons_zero, List.set_cons_succ]
    refine wpAnyH_take (i := 10) (v := ?_) rfl (by kernel_rfl) (by kernel_rfl) (by kernel_rfl) (fun _ _ _ h => h) (Or.inl ⟨by rfl, ?_⟩) (by assumption) ?_
    rotate_left
    · (intro w hSw; (try dsimp only at hSw); go_simp; (try with_reducible rfl))
    try simp only [List.getElem_toArray, List.getElem_cons_succ, List.getElem_cons_zero, Act.put, List.setIfInBounds_toArray, List.set_cons_zero, List.set_cons_succ]
    refine wpAnyH_done (by kernel_rfl) ?_ _
    have e0 := SF.c0
    have e1 := SF.c1
    have e2 := SF.c2
    have e3 := SF.c3
    have e4 := SF.c4
    go_wp2_with fail
    exact bodyPost_ret (v := .tuple #[.agg #[.int .i64 x0, .int .i64 y1, .int .i64 y2, .int .i64 y4, .bool y5], .bool (true && decide (fb = [x0, x1, x2, x3, x4]))]) (by simp [results, Try.results102, go_sem, e0, e1, e2, e3, e4]) rfl ⟨by rfl, BF⟩
theorem sDescFromBytes_any (ao : Option Addr) (n cap : Nat) (xs : List Int) (w : World) (hr : Rd w ao n xs) (hn : n ≤ 9223372036854775807) : Calls Try.prog 42 #[.slice ao n cap] w fun e w' => e = .returned (.tuple #[.agg #[.int .i64 (descFrom xs).1.node, .int .i64 (descFrom xs).1.kind, .int .i64 (descFrom xs).1.size, .int .i64 (descFrom xs).1.dur, .bool (descFrom xs).1.chg], .int .i64 (descFrom xs).2]) ∧ Below w.heap.size w w' := by
  have hl := hr.len
  by_cases h5 : n = 5
  rotate_left
  · rw [descFrom_len (by omega)]
    have t1 : ((n : Int) != 5) = true := by simp; omega
    clear hl hr
    go_enter Try.func42, Try.ntmps42
    go_wp2
    exact bodyPost_ret (v := .tuple #[.agg #[.int .i64 0, .int .i64 0, .int .i64 0, .int .i64 0, .bool false], .int .i64 6]) (by simp [results, Try.results42, go_sem]) rfl ⟨rfl, (Below.refl _ _).alloc (Nat.le_refl _) _⟩
  subst h5
  have hB : Below w.heap.size w (w.alloc (.cells #[.int .i64 0, .int .i64 0, .int .i64 0, .int .i64 0, .bool false] 49)) := (Below.refl _ _).alloc (Nat.le_refl _) _
  have hR : DescAt 49 (w.alloc (.cells #[.int .i64 0, .int .i64 0, .int .i64 0, .int .i64 0, .bool false] 49)) w.heap.size 0 0 0 0 false := DescAt.new w
  have hq := hr.below hB
  rcases hb : isBytes xs with _ | _
  · rw [descFrom_nobytes hb]
    have HQ := Lib.hid hq; have HBT := Lib.hid hb
    clear hl hr hB hR hq hb
    go_enter Try.func42, Try.ntmps42
    go_wp2_with (go_at_call 92; refine (sIsBytes_any _ _ _ _ _ HQ.out (by omega)).mono ?_; rintro e w' ⟨rfl, rfl⟩; rw [HBT.out])
    exact bodyPost_ret (v := .tuple #[.agg #[.int .i64 0, .int .i64 0, .int .i64 0, .int .i64 0, .bool false], .int .i64 6]) (by simp [results, Try.results42, go_sem]) rfl ⟨rfl, (Below.refl _ _).alloc (Nat.le_refl _) _⟩
  obtain ⟨x0, x1, x2, x3, x4, rfl⟩ := list_five hl
  obtain ⟨b, off, rfl, -⟩ := hr.here (by omega)
  have hf := fun (W : World) (h : Rd W (some ⟨b, off, none⟩) 5 [x0, x1, x2, x3, x4]) => l08From_any b off cap x0 x1 x2 x3 x4 W h hb
  rw [descFrom_bytes hb]
  have hif : (if isDesc (descRead x0 x1 x2 x3 x4) = true ∧ descBytes (descRead x0 x1 x2 x3 x4) = [x0, x1, x2, x3, x4] then (descRead x0 x1 x2 x3 x4, (0 : Int)) else (Ds.zero, 6)) = if (isDesc (descRead x0 x1 x2 x3 x4) && decide (descBytes (descRead x0 x1 x2 x3 x4) = [x0, x1, x2, x3, x4])) = true then (descRead x0 x1 x2 x3 x4, (0 : Int)) else (Ds.zero, 6) := by simp
  rw [hif]
  clear hif
  generalize (isDesc (descRead x0 x1 x2 x3 x4) && decide (descBytes (descRead x0 x1 x2 x3 x4) = [x0, x1, x2, x3, x4])) = ok at hf ⊢
  generalize descRead x0 x1 x2 x3 x4 = d at hf ⊢
  obtain ⟨n, a, z, u, c⟩ := d
  simp only at hf
  have HQ := Lib.hid hq; have HBT := Lib.hid hb; have HF := Lib.hid hf; have HBB := Lib.hid hB; have HRR := Lib.hid hR
  clear hl hr hB hR hq hb hf
  cases ok
  · rw [if_neg (by simp)]
    go_enter Try.func42, Try.ntmps42
    go_upto_region 3 with (go_at_call 92; refine (sIsBytes_any _ _ _ _ _ HQ.out (by omega)).mono ?_; rintro e w' ⟨rfl, rfl⟩; rw [HBT.out])
    generalize w.alloc (.cells #[.int .i64 0, .int .i64 0, .int .i64 0, .int .i64 0, .bool false] 49) = w0 at HQ HBB HRR ⊢
    go_wp2_with (go_at_call 102; refine (HF.out _ HQ.out).mono ?_; rintro e w1 ⟨rfl, b1⟩; have L1 := HRR.out.below b1 HRR.out.lt; have LA := fun o => L1.below ((Below.refl w1.heap.size w1).alloc (Nat.le_refl _) o) L1.lt; have q0 := fun o => (LA o).c0; have f0 := fun o => (LA o).f 0; have q1 := fun o => (LA o).c1; have f1 := fun o => (LA o).f 1; have q2 := fun o => (LA o).c2; have f2 := fun o => (LA o).f 2; have q3 := fun o => (LA o).c3; have f3 := fun o => (LA o).f 3; have q4 := fun o => (LA o).c4; have f4 := fun o => (LA o).f 4; have HLA := Lib.hid LA; have B1 := Lib.hid (below_two HBB.out b1); clear b1 LA L1)
    clear q0 q1 q2 q3 q4 f0 f1 f2 f3 f4
    change bodyPost _ _ _ _ _ (setDesc (w1.alloc (.cells #[.int .i64 n, .int .i64 a, .int .i64 z, .int .i64 u, .bool c] 49)) w.heap.size 0 0 0 0 false)
    have SF := (HLA.out (.cells #[.int .i64 n, .int .i64 a, .int .i64 z, .int .i64 u, .bool c] 49)).five 0 0 0 0 false
    have BF := (below_two B1.out ((Below.refl w1.heap.size w1).alloc (Nat.le_refl _) (.cells #[.int .i64 n, .int .i64 a, .int .i64 z, .int .i64 u, .bool c] 49))).trans (below_desc (B := w.heap.size) (Nat.le_refl _) 0 0 0 0 false)
    generalize setDesc (w1.alloc (.cells #[.int .i64 n, .int .i64 a, .int .i64 z, .int .i64 u, .bool c] 49)) w.heap.size 0 0 0 0 false = wz at SF BF ⊢
    have e0 := SF.c0; have e1 := SF.c1; have e2 := SF.c2; have e3 := SF.c3; have e4 := SF.c4
    exact bodyPost_ret (v := .tuple #[.agg #[.int .i64 0, .int .i64 0, .int .i64 0, .int .i64 0, .bool false], .int .i64 6]) (by simp [results, Try.results42, go_sem, e0, e1, e2, e3, e4]) rfl ⟨rfl, BF⟩
  · rw [if_pos rfl]
    go_enter Try.func42, Try.ntmps42
    go_upto_region 3 with (go_at_call 92; refine (sIsBytes_any _ _ _ _ _ HQ.out (by omega)).mono ?_; rintro e w' ⟨rfl, rfl⟩; rw [HBT.out])
    generalize w.alloc (.cells #[.int .i64 0, .int .i64 0, .int .i64 0, .int .i64 0, .bool false] 49) = w0 at HQ HBB HRR ⊢
    go_wp2_with (go_at_call 102; refine (HF.out _ HQ.out).mono ?_; rintro e w1 ⟨rfl, b1⟩; have L1 := HRR.out.below b1 HRR.out.lt; have LA := fun o => L1.below ((Below.refl w1.heap.size w1).alloc (Nat.le_refl _) o) L1.lt; have q0 := fun o => (LA o).c0; have f0 := fun o => (LA o).f 0; have q1 := fun o => (LA o).c1; have f1 := fun o => (LA o).f 1; have q2 := fun o => (LA o).c2; have f2 := fun o => (LA o).f 2; have q3 := fun o => (LA o).c3; have f3 := fun o => (LA o).f 3; have q4 := fun o => (LA o).c4; have f4 := fun o => (LA o).f 4; have HLA := Lib.hid LA; have B1 := Lib.hid (below_two HBB.out b1); clear b1 LA L1)
    clear q0 q1 q2 q3 q4 f0 f1 f2 f3 f4
    change bodyPost _ _ _ _ _ (setDesc (w1.alloc (.cells #[.int .i64 n, .int .i64 a, .int .i64 z, .int .i64 u, .bool c] 49)) w.heap.size n a z u c)
    have SF := (HLA.out (.cells #[.int .i64 n, .int .i64 a, .int .i64 z, .int .i64 u, .bool c] 49)).five n a z u c
    have BF := (below_two B1.out ((Below.refl w1.heap.size w1).alloc (Nat.le_refl _) (.cells #[.int .i64 n, .int .i64 a, .int .i64 z, .int .i64 u, .bool c] 49))).trans (below_desc (B := w.heap.size) (Nat.le_refl _) n a z u c)
    generalize setDesc (w1.alloc (.cells #[.int .i64 n, .int .i64 a, .int .i64 z, .int .i64 u, .bool c] 49)) w.heap.size n a z u c = wz at SF BF ⊢
    have e0 := SF.c0; have e1 := SF.c1; have e2 := SF.c2; have e3 := SF.c3; have e4 := SF.c4
    exact bodyPost_ret (v := .tuple #[.agg #[.int .i64 n, .int .i64 a, .int .i64 z, .int .i64 u, .bool c], .int .i64 0]) (by simp [results, Try.results42, go_sem, e0, e1, e2, e3, e4]) rfl ⟨rfl, BF⟩
end
end Go.Proofs.Ytbdfnkhmnglpbaa
