/-
  Chapter 4: the bits of a state on both sides.
-/
import Derived.Test.YtkidhilipeoliaaDoorC4d
import Derived.Test.YtkidhilipeoliaaDoorOne
namespace Go.Proofs.YtkidhilipeoliaaDoor
open Go.RowKit

theorem sApp (ao : Option Addr) (n cap : Nat) (xs : List Int) (val W : Int) (width : Nat) (w : World) (hW : (width : Int) = W) (hr : Rd w ao n xs) (hl : n ≤ 1048576) (hw : width ≤ 40) :
    Calls Tryd.prog 39 #[.slice ao n cap, .int .i64 val, .int .i64 W] w (Makes 2 w (xs ++ bitsOf val width)) := by
  subst hW; exact l01Append_any ao n cap xs val width w hr hl hw
theorem sApp0 (val W : Int) (width : Nat) (w : World) (hW : (width : Int) = W) (hw : width ≤ 40) :
    Calls Tryd.prog 39 #[.slice none 0 0, .int .i64 val, .int .i64 W] w (Makes 2 w (bitsOf val width)) := by
  have h := sApp none 0 0 [] val W width w hW Rd.nil_ (by omega) hw
  rwa [List.nil_append] at h
set_option maxRecDepth 100000 in
theorem l04Bits_any (t m r s k : Int) (w : World) : Calls Tryd.prog 22 #[.agg #[.int .i64 t, .int .i64 m, .int .i64 r, .int .i64 s, .int .i64 k]] w (Makes 2 w (stateBits t m r s k)) := by
  obtain ⟨A1, e1⟩ : ∃ A, bitsOf t 16 = A := ⟨_, rfl⟩
  obtain ⟨A2, e2⟩ : ∃ A, A1 ++ bitsOf m 4 = A := ⟨_, rfl⟩
  obtain ⟨A3, e3⟩ : ∃ A, A2 ++ bitsOf r 4 = A := ⟨_, rfl⟩
  obtain ⟨A4, e4⟩ : ∃ A, A3 ++ bitsOf s 8 = A := ⟨_, rfl⟩
  obtain ⟨z, e5⟩ : ∃ A, A4 ++ bitsOf k 32 = A := ⟨_, rfl⟩
  have hz : stateBits t m r s k = z := by rw [← e5, ← e4, ← e3, ← e2, ← e1]; rfl
  rw [hz]
  have l1 : A1.length = 16 := by rw [← e1]; exact bitsOf_len _ _
  have l2 : A2.length = 20 := by rw [← e2, List.length_append, l1, bitsOf_len]
  have l3 : A3.length = 24 := by rw [← e3, List.length_append, l2, bitsOf_len]
  have l4 : A4.length = 32 := by rw [← e4, List.length_append, l3, bitsOf_len]
  have L1 := Lib.hid l1; clear l1
  have L2 := Lib.hid l2; clear l2
  have L3 := Lib.hid l3; clear l3
  have L4 := Lib.hid l4; clear l4
  have E1 := Lib.hid e1; clear e1
  have E2 := Lib.hid e2; clear e2
  have E3 := Lib.hid e3; clear e3
  have E4 := Lib.hid e4; clear e4
  have E5 := Lib.hid e5; clear e5 hz
  have H0 : Held 2 (w.alloc (.cells #[.int .i64 t, .int .i64 m, .int .i64 r, .int .i64 s, .int .i64 k] 25)) (w.alloc (.cells #[.int .i64 t, .int .i64 m, .int .i64 r, .int .i64 s, .int .i64 k] 25)) [] := Held.start
  go_enter Tryd.func22, Tryd.ntmps22
  go_upto_region 1 with fail
  have H1 := Lib.hid (H0.still (Below.drew (Below.refl _ _))); clear H0
  go_region_held3 (fun w' => w'.cell? ⟨w.heap.size, 0, none⟩ = some (.int .i64 t) ∧ w'.cell? ⟨w.heap.size, 1, none⟩ = some (.int .i64 m))
    (first | exact ⟨(state_new H1.out.below).c0, (state_new H1.out.below).c1⟩ | exact ⟨(state_new H2.out.below).c0, (state_new H2.out.below).c1⟩ | exact ⟨(state_new H3.out.below).c0, (state_new H3.out.below).c1⟩)
    (first
      | (go_at_call 39; (with_reducible refine (sApp0 t 16 16 _ rfl ?_).mono ?_); (· omega); rintro e w1 m1; rw [E1.out] at m1; obtain ⟨p1, c1, rfl, o1, -, b1⟩ := m1.get; have H2 := Lib.hid (H1.out.make o1 b1); clear o1 b1 m1)
      | (go_at_call 39; have RR := H2.out.rd 0 rfl rfl; (with_reducible refine (sApp _ _ _ A1 m 4 4 _ rfl RR ?_ ?_).mono ?_); (· have := L1.out; omega); (· omega); clear RR; rintro e w2 m2; rw [E2.out] at m2; obtain ⟨p2, c2, rfl, o2, -, b2⟩ := m2.get; have H3 := Lib.hid (H2.out.make o2 b2); clear o2 b2 m2))
  go_upto_region 2 with fail
  have H4 := Lib.hid (H3.out.still (Below.drew (Below.refl _ _))); clear H1 H2 H3
  go_region_held3 (fun w' => w'.cell? ⟨w.heap.size, 2, none⟩ = some (.int .i64 r) ∧ w'.cell? ⟨w.heap.size, 3, none⟩ = some (.int .i64 s) ∧ w'.cell? ⟨w.heap.size, 4, none⟩ = some (.int .i64 k))
    (first | exact ⟨(state_new H4.out.below).c2, (state_new H4.out.below).c3, (state_new H4.out.below).c4⟩ | exact ⟨(state_new H5.out.below).c2, (state_new H5.out.below).c3, (state_new H5.out.below).c4⟩ | exact ⟨(state_new H6.out.below).c2, (state_new H6.out.below).c3, (state_new H6.out.below).c4⟩ | exact ⟨(state_new H7.out.below).c2, (state_new H7.out.below).c3, (state_new H7.out.below).c4⟩)
    (first
      | (go_at_call 39; have RR := H4.out.rd 0 rfl rfl; (with_reducible refine (sApp _ _ _ A2 r 4 4 _ rfl RR ?_ ?_).mono ?_); (· have := L2.out; omega); (· omega); clear RR; rintro e w3 m3; rw [E3.out] at m3; obtain ⟨p3, c3, rfl, o3, -, b3⟩ := m3.get; have H5 := Lib.hid (H4.out.make o3 b3); clear o3 b3 m3)
      | (go_at_call 39; have RR := H5.out.rd 0 rfl rfl; (with_reducible refine (sApp _ _ _ A3 s 8 8 _ rfl RR ?_ ?_).mono ?_); (· have := L3.out; omega); (· omega); clear RR; rintro e w4 m4; rw [E4.out] at m4; obtain ⟨p4, c4, rfl, o4, -, b4⟩ := m4.get; have H6 := Lib.hid (H5.out.make o4 b4); clear o4 b4 m4)
      | (go_at_call 39; have RR := H6.out.rd 0 rfl rfl; (with_reducible refine (sApp _ _ _ A4 k 32 32 _ rfl RR ?_ ?_).mono ?_); (· have := L4.out; omega); (· omega); clear RR; rintro e w5 m5; rw [E5.out] at m5; obtain ⟨p5, c5, rfl, o5, -, b5⟩ := m5.get; have H7 := Lib.hid (H6.out.make o5 b5); clear o5 b5 m5))
  go_wp2_with fail
  go_ret
  exact ⟨_, rfl, (H7.out.get 0 rfl).more (by simp), below_box H7.out.below⟩
end Go.Proofs.YtkidhilipeoliaaDoor
