/-
  Chapter 8: the bytes of a descriptor, of the model.
-/
import Derived.Test.YtjejflngaelgkaaD2
namespace Go.Proofs.Ytjejflngaelgkaa
open Go.RowKit

/-- A slice literal of five numbers. -/
theorem Own.of_alloc_five {E base : Nat} {w : World} (a b c d e : Int) (hE : base ≤ w.heap.size) : Own E (w.alloc (.cells #[.int .i64 a, .int .i64 b, .int .i64 c, .int .i64 d, .int .i64 e] E)) base (.slice (some ⟨w.heap.size, 0, none⟩) 5 5) [a, b, c, d, e] :=
  ⟨by simp, .inr ⟨w.heap.size, 5, #[.int .i64 a, .int .i64 b, .int .i64 c, .int .i64 d, .int .i64 e], by simp, hE, heap_alloc_new w _, by simp, by unfold maxLen; omega, by simp, by simp⟩⟩
/-- The numbers of a descriptor lie where its bytes are bytes. -/
def descIn (d : Ds) : Prop := (0 ≤ d.kind ∧ d.kind ≤ 3) ∧ (0 ≤ d.size ∧ d.size ≤ 32) ∧ (0 ≤ d.dur ∧ d.dur ≤ 1000)
theorem desc_in {d : Ds} (h : isDesc d = true) : descIn d := by
  obtain ⟨h1, h2, h3, h4, h5, h6⟩ := desc_parts h
  have hc := cells_in d.kind d.size
  have hk := inRange_iff.1 h2
  exact ⟨hk, sizeOk_le h3, by omega⟩
theorem l08Bytes_any (n a z u : Int) (c : Bool) (w : World) (h : descIn ⟨n, a, z, u, c⟩) : Calls Try.prog 49 #[.agg #[.int .i64 n, .int .i64 a, .int .i64 z, .int .i64 u, .bool c]] w (Makes 2 w (descBytes ⟨n, a, z, u, c⟩)) := by
  obtain ⟨⟨k0, k1⟩, ⟨s0, s1⟩, u0, u1⟩ := h
  simp only at k0 k1 s0 s1 u0 u1
  unfold descBytes
  simp only
  have hw1 : IntKind.i64.wrap (a * 64) = a * 64 := by rw [IntKind.wrap_i64]; omega
  have hw2 : IntKind.i64.wrap (a * 64 + z) = a * 64 + z := by rw [IntKind.wrap_i64]; omega
  have hw3 : IntKind.i64.wrap (u.tdiv 256) = u / 256 := by rw [Int.tdiv_eq_ediv_of_nonneg u0, IntKind.wrap_i64]; omega
  have hw4 : u.tmod 256 = u % 256 := by rw [Int.tmod_eq_emod_of_nonneg u0]
  clear k0 k1 s0 s1 u0 u1
  have hO : ∀ x0 x1 x2 x3 x4 : Int, Own 2 ((w.alloc (.cells #[.int .i64 n, .int .i64 a, .int .i64 z, .int .i64 u, .bool c] 25)).alloc (.cells #[.int .i64 x0, .int .i64 x1, .int .i64 x2, .int .i64 x3, .int .i64 x4] 2)) w.heap.size (.slice (some ⟨w.heap.size + 1, 0, none⟩) 5 5) [x0, x1, x2, x3, x4] := by
    intro x0 x1 x2 x3 x4
    have e : (w.alloc (.cells #[.int .i64 n, .int .i64 a, .int .i64 z, .int .i64 u, .bool c] 25)).heap.size = w.heap.size + 1 := by simp
    have h := Own.of_alloc_five (E := 2) (base := w.heap.size) (w := w.alloc (.cells #[.int .i64 n, .int .i64 a, .int .i64 z, .int .i64 u, .bool c] 25)) x0 x1 x2 x3 x4 (by omega)
    rwa [e] at h
  have HO := Lib.hid hO; clear hO
  cases c with
  | true =>
    go_enter Try.func49, Try.ntmps49
    go_wp2
    go_ret
    exact ⟨_, rfl, HO.out _ _ _ _ _, ((Below.refl _ _).alloc (Nat.le_refl _) _).alloc (by simp) _⟩
  | false =>
    go_enter Try.func49, Try.ntmps49
    go_wp2
    go_ret
    exact ⟨_, rfl, HO.out _ _ _ _ _, ((Below.refl _ _).alloc (Nat.le_refl _) _).alloc (by simp) _⟩
theorem sDescToBytes_any (n a z u : Int) (c : Bool) (w : World) : Calls Try.prog 15 #[.agg #[.int .i64 n, .int .i64 a, .int .i64 z, .int .i64 u, .bool c]] w (Makes2 2 w (descToBytes ⟨n, a, z, u, c⟩).1 (descToBytes ⟨n, a, z, u, c⟩).2) := by
  have hi := fun (W : World) => sIsDescriptor_any n a z u c W
  unfold descToBytes
  rcases hd : isDesc ⟨n, a, z, u, c⟩ with _ | _
  · rw [hd] at hi
    rw [if_neg (by simp)]
    have HI := Lib.hid hi; clear hi hd
    go_enter Try.func15, Try.ntmps15
    go_wp2_with fail
    refine (HI.out _).mono ?_
    rintro e w1 ⟨rfl, b1⟩
    go_wp2
    go_ret2
    exact ⟨_, rfl, Own.nil_, below_box b1⟩
  · rw [hd] at hi
    rw [if_pos rfl]
    have hb := fun (W : World) => l08Bytes_any n a z u c W (desc_in hd)
    have HI := Lib.hid hi; have HB := Lib.hid hb; clear hi hb hd
    go_enter Try.func15, Try.ntmps15
    go_wp2_with fail
    refine (HI.out _).mono ?_
    rintro e w1 ⟨rfl, b1⟩
    have hd := desc_new b1
    have d0 := hd.c0; have d1 := hd.c1; have d2 := hd.c2; have d3 := hd.c3; have d4 := hd.c4
    clear hd
    go_wp2_with fail
    refine (HB.out _).mono ?_
    rintro e w2 ⟨v, rfl, o2, b2⟩
    clear d0 d1 d2 d3 d4
    have OS := Lib.hid o2; clear o2
    go_wp2
    go_ret2
    exact ⟨_, rfl, OS.out.more (below_box b1).size, below_two (below_box b1) b2⟩
end Go.Proofs.Ytjejflngaelgkaa
