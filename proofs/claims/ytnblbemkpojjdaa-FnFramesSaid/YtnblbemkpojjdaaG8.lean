/-
  Chapter 6: frames compared, marked and measured by the laws.
-/
import Derived.Test.YtnblbemkpojjdaaG7
namespace Go.Proofs.Ytnblbemkpojjdaa
open Go.RowKit

theorem szInt_ok (ao : Option Addr) (n cap : Nat) (w : World) (hn : n ≤ 1048576) : Calls Try.prog 60 #[.slice ao n cap, .int .i64 1048576] w fun e w' => e = .returned (.int .i64 (1048576 - (n : Int))) ∧ w = w' := by
  have hw : IntKind.i64.wrap (1048576 - (n : Int)) = 1048576 - (n : Int) := by rw [IntKind.wrap_i64]; omega
  have h0 : ¬ (1048576 - (n : Int) < 0) := by omega
  go_enter Try.func60, Try.ntmps60
  go_wp2
  go_ret
  exact ⟨rfl, rfl⟩
theorem szInt_big (ao : Option Addr) (n cap : Nat) (w : World) (hn : 1048576 < n) (hm : n ≤ 9223372036854775807) : Calls Try.prog 60 #[.slice ao n cap, .int .i64 1048576] w fun e w' => e = .returned (.int .i64 (-1)) ∧ w = w' := by
  have hw : IntKind.i64.wrap (1048576 - (n : Int)) = 1048576 - (n : Int) := by rw [IntKind.wrap_i64]; omega
  have h0 : 1048576 - (n : Int) < 0 := by omega
  go_enter Try.func60, Try.ntmps60
  go_wp2
  go_ret
  exact ⟨rfl, rfl⟩
theorem szFrame_ok (a q t m r s k : Int) (ao : Option Addr) (n cap : Nat) (w : World) (hn : n ≤ 1048576) : Calls Try.prog 25 #[.agg #[.int .i64 a, .int .i64 q, .int .i64 t, .int .i64 m, .int .i64 r, .int .i64 s, .int .i64 k, .slice ao n cap], .int .i64 1048576] w fun e w' => e = .returned (.int .i64 (1048576 - (n : Int))) ∧ Below w.heap.size w w' := by
  have h0 : ¬ (1048576 - (n : Int) < 0) := by omega
  go_enter Try.func25, Try.ntmps25
  go_wp2_with (go_at_call 60; refine (szInt_ok _ _ _ _ hn).mono ?_; rintro e w' ⟨rfl, rfl⟩)
  go_ret
  exact ⟨rfl, (Below.refl _ _).alloc (Nat.le_refl _) _⟩
theorem szFrame_big (a q t m r s k : Int) (ao : Option Addr) (n cap : Nat) (w : World) (hn : 1048576 < n) (hm : n ≤ 9223372036854775807) : Calls Try.prog 25 #[.agg #[.int .i64 a, .int .i64 q, .int .i64 t, .int .i64 m, .int .i64 r, .int .i64 s, .int .i64 k, .slice ao n cap], .int .i64 1048576] w fun e w' => e = .returned (.int .i64 (-1)) ∧ Below w.heap.size w w' := by
  go_enter Try.func25, Try.ntmps25
  go_wp2_with (go_at_call 60; refine (szInt_big _ _ _ _ hn hm).mono ?_; rintro e w' ⟨rfl, rfl⟩)
  go_ret
  exact ⟨rfl, (Below.refl _ _).alloc (Nat.le_refl _) _⟩
/-- The two frames that a call lays first. -/
theorem frame_new2 {T U : Nat} {w w' : World} {a q t m r s k a1 q1 t1 m1 r1 s1 k1 : Int} {v v1 : Value} (h : Below ((w.alloc (.cells #[.int .i64 a, .int .i64 q, .int .i64 t, .int .i64 m, .int .i64 r, .int .i64 s, .int .i64 k, v] T)).alloc (.cells #[.int .i64 a1, .int .i64 q1, .int .i64 t1, .int .i64 m1, .int .i64 r1, .int .i64 s1, .int .i64 k1, v1] U)).heap.size ((w.alloc (.cells #[.int .i64 a, .int .i64 q, .int .i64 t, .int .i64 m, .int .i64 r, .int .i64 s, .int .i64 k, v] T)).alloc (.cells #[.int .i64 a1, .int .i64 q1, .int .i64 t1, .int .i64 m1, .int .i64 r1, .int .i64 s1, .int .i64 k1, v1] U)) w') :
    FrameAt T w' w.heap.size a q t m r s k v ∧ FrameAt U w' (w.heap.size + 1) a1 q1 t1 m1 r1 s1 k1 v1 :=
  ⟨((FrameAt.new w).below (B := (w.alloc (.cells #[.int .i64 a, .int .i64 q, .int .i64 t, .int .i64 m, .int .i64 r, .int .i64 s, .int .i64 k, v] T)).heap.size) ((Below.refl _ _).alloc (Nat.le_refl _) _) (by simp)).below h (by simp; omega), by
    have e : (w.alloc (.cells #[.int .i64 a, .int .i64 q, .int .i64 t, .int .i64 m, .int .i64 r, .int .i64 s, .int .i64 k, v] T)).heap.size = w.heap.size + 1 := by simp
    have := (FrameAt.new (T := U) (a := a1) (q := q1) (t := t1) (m := m1) (r := r1) (s := s1) (k := k1) (v := v1) (w.alloc (.cells #[.int .i64 a, .int .i64 q, .int .i64 t, .int .i64 m, .int .i64 r, .int .i64 s, .int .i64 k, v] T))).below h (by simp)
    rwa [e] at this⟩
theorem frame_cells {T b : Nat} {w : World} {a q t m r s k : Int} {v : Value} (h : FrameAt T w b a q t m r s k v) : w.cell? ⟨b, 0, none⟩ = some (.int .i64 a) ∧ w.cell? ⟨b, 1, none⟩ = some (.int .i64 q) ∧ w.cell? ⟨b, 2, none⟩ = some (.int .i64 t) ∧ w.cell? ⟨b, 3, none⟩ = some (.int .i64 m) ∧ w.cell? ⟨b, 4, none⟩ = some (.int .i64 r) ∧ w.cell? ⟨b, 5, none⟩ = some (.int .i64 s) ∧ w.cell? ⟨b, 6, none⟩ = some (.int .i64 k) ∧ w.cell? ⟨b, 7, none⟩ = some v := ⟨h.c0, h.c1, h.c2, h.c3, h.c4, h.c5, h.c6, h.c7⟩
theorem frame_cells2 {T U b c : Nat} {w : World} {a q t m r s k a1 q1 t1 m1 r1 s1 k1 : Int} {v v1 : Value} (h : FrameAt T w b a q t m r s k v) (g : FrameAt U w c a1 q1 t1 m1 r1 s1 k1 v1) : w.cell? ⟨b, 0, none⟩ = some (.int .i64 a) ∧ w.cell? ⟨b, 1, none⟩ = some (.int .i64 q) ∧ w.cell? ⟨b, 2, none⟩ = some (.int .i64 t) ∧ w.cell? ⟨b, 3, none⟩ = some (.int .i64 m) ∧ w.cell? ⟨b, 4, none⟩ = some (.int .i64 r) ∧ w.cell? ⟨b, 5, none⟩ = some (.int .i64 s) ∧ w.cell? ⟨b, 6, none⟩ = some (.int .i64 k) ∧ w.cell? ⟨b, 7, none⟩ = some v ∧ w.cell? ⟨c, 0, none⟩ = some (.int .i64 a1) ∧ w.cell? ⟨c, 1, none⟩ = some (.int .i64 q1) ∧ w.cell? ⟨c, 2, none⟩ = some (.int .i64 t1) ∧ w.cell? ⟨c, 3, none⟩ = some (.int .i64 m1) ∧ w.cell? ⟨c, 4, none⟩ = some (.int .i64 r1) ∧ w.cell? ⟨c, 5, none⟩ = some (.int .i64 s1) ∧ w.cell? ⟨c, 6, none⟩ = some (.int .i64 k1) ∧ w.cell? ⟨c, 7, none⟩ = some v1 := ⟨h.c0, h.c1, h.c2, h.c3, h.c4, h.c5, h.c6, h.c7, frame_cells g⟩
theorem eqFrame_yes (a q t m r s k : Int) (ao bo : Option Addr) (cap dap : Nat) (xs : List Int) (w : World) (hx : Rd w ao xs.length xs) (hy : Rd w bo xs.length xs) (hn : xs.length ≤ 1048576) :
    Calls Try.prog 27 #[.agg #[.int .i64 a, .int .i64 q, .int .i64 t, .int .i64 m, .int .i64 r, .int .i64 s, .int .i64 k, .slice ao xs.length cap], .agg #[.int .i64 a, .int .i64 q, .int .i64 t, .int .i64 m, .int .i64 r, .int .i64 s, .int .i64 k, .slice bo xs.length dap]] w fun e w' => e = .returned (.bool true) ∧ Below w.heap.size w w' := by
  have h0 : (a != a) = false := by simp
  have h1 : (q != q) = false := by simp
  have hb : Below w.heap.size w ((w.alloc (.cells #[.int .i64 a, .int .i64 q, .int .i64 t, .int .i64 m, .int .i64 r, .int .i64 s, .int .i64 k, .slice ao xs.length cap] 28)).alloc (.cells #[.int .i64 a, .int .i64 q, .int .i64 t, .int .i64 m, .int .i64 r, .int .i64 s, .int .i64 k, .slice bo xs.length dap] 28)) := below_box2 (Below.refl _ _)
  have HX := Lib.hid (hx.below hb); have HY := Lib.hid (hy.below hb); clear hx hy hb
  go_enter Try.func27, Try.ntmps27
  go_wp2_with (first
    | (go_at_call 62; refine (eqState_any _ _ _ _ _ _).mono ?_; rintro e w1 ⟨rfl, b1⟩; have c7 := (frame_new2 b1).1.c7; have d7 := (frame_new2 b1).2.c7)
    | (go_at_call 28; refine (eq_yes _ _ _ _ _ _ _ _ (HX.out.below b1) (HY.out.below b1) (by omega)).mono ?_; rintro e w2 ⟨rfl, b2⟩))
  go_ret
  exact ⟨rfl, below_two (below_box2 b1) b2⟩
theorem markFrame_own (a q t m r s k : Int) (ao : Option Addr) (n cap base : Nat) (xs : List Int) (j : Int) (w : World) (hl : xs.length = n) (ho : Own 2 w base (.slice ao n cap) xs) (hn : n ≤ 4294967296) (hq0 : 0 ≤ j) (hq1 : j ≤ 4294967296) :
    Calls Try.prog 29 #[.agg #[.int .i64 a, .int .i64 q, .int .i64 t, .int .i64 m, .int .i64 r, .int .i64 s, .int .i64 k, .slice ao n cap], .int .i64 j] w fun e w' => e = .returned (.int .i64 (j + n)) ∧ Own 2 w' base (.slice ao n cap) (marks j n) ∧ w.grownBy w' (Value.slice ao n cap).ownBlock := by
  have hb : Below w.heap.size w (w.alloc (.cells #[.int .i64 a, .int .i64 q, .int .i64 t, .int .i64 m, .int .i64 r, .int .i64 s, .int .i64 k, .slice ao n cap] 28)) := (Below.refl _ _).alloc (Nat.le_refl _) _
  have HO := Lib.hid (ho.below hb); have HG := Lib.hid (grown_of_below (g := (Value.slice ao n cap).ownBlock) hb); clear ho hb
  go_enter Try.func29, Try.ntmps29
  go_wp2_with (go_at_call 30; refine (mark_own _ _ _ _ _ _ _ hl HO.out hn hq0 hq1).mono ?_; rintro e w1 ⟨rfl, o1, g1⟩)
  go_ret
  exact ⟨rfl, o1, grown_trans HG.out g1⟩
theorem heldFrame_yes (a q t m r s k : Int) (ao : Option Addr) (n cap : Nat) (j : Int) (w : World) (hr : Rd w ao n (marks j n)) (hn : n ≤ 4294967296) (hq0 : 0 ≤ j) (hq1 : j ≤ 4294967296) :
    Calls Try.prog 33 #[.agg #[.int .i64 a, .int .i64 q, .int .i64 t, .int .i64 m, .int .i64 r, .int .i64 s, .int .i64 k, .slice ao n cap], .int .i64 j] w fun e w' => e = .returned (.int .i64 (j + n)) ∧ Below w.heap.size w w' := by
  have hb : Below w.heap.size w (w.alloc (.cells #[.int .i64 a, .int .i64 q, .int .i64 t, .int .i64 m, .int .i64 r, .int .i64 s, .int .i64 k, .slice ao n cap] 28)) := (Below.refl _ _).alloc (Nat.le_refl _) _
  have HR := Lib.hid (hr.below hb); have HB := Lib.hid hb; clear hr hb
  have h0 : ¬ (j + (n : Int) < 0) := by omega
  go_enter Try.func33, Try.ntmps33
  go_wp2_with (go_at_call 31; refine (held_yes _ _ _ _ _ HR.out hn hq0 hq1).mono ?_; rintro e w1 ⟨rfl, rfl⟩)
  go_ret
  exact ⟨rfl, HB.out⟩
theorem likeFrames_yes (a q t m r s k : Int) (ao bo : Option Addr) (cap dap : Nat) (xs : List Int) (w : World) (hx : Rd w ao xs.length xs) (hy : Rd w bo xs.length xs) (hn : xs.length ≤ 1048576) :
    Calls Try.prog 22 #[.agg #[.int .i64 a, .int .i64 q, .int .i64 t, .int .i64 m, .int .i64 r, .int .i64 s, .int .i64 k, .slice ao xs.length cap], .agg #[.int .i64 a, .int .i64 q, .int .i64 t, .int .i64 m, .int .i64 r, .int .i64 s, .int .i64 k, .slice bo xs.length dap]] w fun e w' => e = .returned (.bool true) ∧ Below w.heap.size w w' := by
  have h0 : (a == a) = true := by simp
  have h1 : (q == q) = true := by simp
  have he : ∀ w : World, (binOp .eql 25 (.agg #[.int .i64 t, .int .i64 m, .int .i64 r, .int .i64 s, .int .i64 k]) (.agg #[.int .i64 t, .int .i64 m, .int .i64 r, .int .i64 s, .int .i64 k])).run Try.prog w = .ok (.bool true) w := fun w => by rw [state_eql]; simp
  have hb : Below w.heap.size w ((w.alloc (.cells #[.int .i64 a, .int .i64 q, .int .i64 t, .int .i64 m, .int .i64 r, .int .i64 s, .int .i64 k, .slice ao xs.length cap] 28)).alloc (.cells #[.int .i64 a, .int .i64 q, .int .i64 t, .int .i64 m, .int .i64 r, .int .i64 s, .int .i64 k, .slice bo xs.length dap] 28)) := below_box2 (Below.refl _ _)
  have HX := Lib.hid (hx.below hb); have HY := Lib.hid (hy.below hb); clear hx hy; have HB := Lib.hid hb; clear hb
  go_enter Try.func22, Try.ntmps22
  go_wp2_with (go_at_call 16; refine (like_yes _ _ _ _ _ _ _ _ HX.out HY.out (by omega)).mono ?_; rintro e w1 ⟨rfl, b1⟩)
  go_ret
  exact ⟨rfl, below_two HB.out b1⟩
end Go.Proofs.Ytnblbemkpojjdaa
