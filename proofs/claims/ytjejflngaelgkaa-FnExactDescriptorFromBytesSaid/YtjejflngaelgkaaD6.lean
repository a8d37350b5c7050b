/-
  Chapter 8: DescriptorToBytes of the program.
-/
import Derived.Test.YtjejflngaelgkaaD4
import Derived.Test.YtjejflngaelgkaaD5
namespace Go.Proofs.Ytjejflngaelgkaa
open Go.RowKit

theorem layout_at0 (w : World) : (Instr.index 75 (.agg layout8) (.int .i64 0)).run Try.prog w = .ok (.agg #[.func (.func 73) #[] #[], .func (.func 74) #[] #[]]) w := by kernel_rfl
theorem layout_at1 (w : World) : (Instr.index 75 (.agg layout8) (.int .i64 1)).run Try.prog w = .ok (.agg #[.func (.func 75) #[] #[], .func (.func 76) #[] #[]]) w := by kernel_rfl
theorem layout_at2 (w : World) : (Instr.index 75 (.agg layout8) (.int .i64 2)).run Try.prog w = .ok (.agg #[.func (.func 77) #[] #[], .func (.func 78) #[] #[]]) w := by kernel_rfl
theorem layout_at3 (w : World) : (Instr.index 75 (.agg layout8) (.int .i64 3)).run Try.prog w = .ok (.agg #[.func (.func 79) #[] #[], .func (.func 80) #[] #[]]) w := by kernel_rfl
theorem layout_at4 (w : World) : (Instr.index 75 (.agg layout8) (.int .i64 4)).run Try.prog w = .ok (.agg #[.func (.func 81) #[] #[], .func (.func 83) #[] #[]]) w := by kernel_rfl
/-- While the bytes are written. -/
structure WriteSt (w wr : World) (n a z u : Int) (c : Bool) (g : Nat) (cap : Nat) (zs : List Int) : Prop where
  box : DescAt 25 wr w.heap.size n a z u c
  own : Own 2 wr (w.heap.size + 1) (.slice (some ⟨g, 0, none⟩) 5 cap) zs
  below : Below w.heap.size w wr
theorem WriteSt.call {w wr wi : World} {n a z u : Int} {c : Bool} {g cap : Nat} {zs : List Int} (h : WriteSt w wr n a z u c g cap zs) (b : Below wr.heap.size wr wi) : WriteSt w wi n a z u c g cap zs :=
  ⟨h.box.below b h.box.lt, h.own.below b, below_two h.below b⟩
theorem WriteSt.set {w wr : World} {n a z u : Int} {c : Bool} {g cap : Nat} {zs : List Int} (h : WriteSt w wr n a z u c g cap zs) (hl : zs.length = 5) {k : Nat} (hk : k < 5) (y : Int) :
    wr.cell? ⟨g, k, none⟩ = some (.int .i64 (zs.getD k 0)) ∧ wr.frozen? ⟨g, k, none⟩ = false ∧ WriteSt w (wr.setCell ⟨g, k, none⟩ (.int .i64 y)) n a z u c g cap (zs.set k y) := by
  obtain ⟨h1, h2, h3, h4⟩ := own_store h.own hl hk y
  exact ⟨h1, h2, h.box.below h4 (Nat.lt_succ_self _), h3, h.below.trans (h4.mono (Nat.le_succ _))⟩
/-- The first k of five numbers, and noughts. -/
def firsts (x0 x1 x2 x3 x4 : Int) (k : Nat) : List Int := [x0, x1, x2, x3, x4].take k ++ List.replicate (5 - k) 0
set_option maxHeartbeats 2000000 in
set_option maxRecDepth 100000 in
theorem descToBytes_any (n a z u : Int) (c : Bool) (w : World) : Calls Try.prog 14 #[.agg #[.int .i64 n, .int .i64 a, .int .i64 z, .int .i64 u, .bool c]] w (Makes2 2 w (descToBytes ⟨n, a, z, u, c⟩).1 (descToBytes ⟨n, a, z, u, c⟩).2) := by
  have hi := fun (W : World) => isDescriptor_any n a z u c W
  unfold descToBytes
  rcases hd : isDesc ⟨n, a, z, u, c⟩ with _ | _
  · rw [hd] at hi
    rw [if_neg (by simp)]
    have HI := Lib.hid hi; clear hi hd
    go_enter Try.func14, Try.ntmps14
    go_wp2_with fail
    refine (HI.out _).mono ?_
    rintro e w1 ⟨rfl, b1⟩
    go_wp2
    go_ret2
    exact ⟨_, rfl, Own.nil_, below_box b1⟩
  rw [hd] at hi
  rw [if_pos rfl]
  obtain ⟨hka, hkz, hku⟩ := desc_in hd
  simp only at hka hkz hku
  unfold descBytes
  simp only
  have hw0 := fun W => write1 n a z u c W
  have hw1 := fun W => write2 n a z u c W hka hkz
  have hw2 := fun W => write3 n a z u c W hku
  have hw3 := fun W => write4 n a z u c W hku.1
  have hw4 := fun W => write5 n a z u c W
  generalize a * 64 + z = x1 at hw1 ⊢
  generalize u / 256 = x2 at hw2 ⊢
  generalize u % 256 = x3 at hw3 ⊢
  generalize flag8 c = x4 at hw4 ⊢
  obtain ⟨x0, hx0⟩ : ∃ x0, n = x0 := ⟨_, rfl⟩
  replace hw0 : ∀ W, Calls Try.prog 73 #[.agg #[.int .i64 n, .int .i64 a, .int .i64 z, .int .i64 u, .bool c]] W fun e w' => e = .returned (.int .i64 x0) ∧ Below W.heap.size W w' := by rw [← hx0]; exact hw0
  have hres : Makes2 2 w [n, x1, x2, x3, x4] 0 = Makes2 2 w [x0, x1, x2, x3, x4] 0 := by rw [hx0]
  rw [hres]
  have HI := Lib.hid hi; have HW0 := Lib.hid hw0; have HW1 := Lib.hid hw1; have HW2 := Lib.hid hw2; have HW3 := Lib.hid hw3; have HW4 := Lib.hid hw4
  clear hi hd hka hkz hku hw0 hw1 hw2 hw3 hw4 hres hx0
  go_enter Try.func14, Try.ntmps14
  go_wp2_with (first
    | (go_at_call 22; refine (HI.out _).mono ?_; rintro e w1 ⟨rfl, b1⟩; have D1 := Lib.hid (desc_new b1); have B1 := Lib.hid (below_box b1); clear b1; have hsz : w.heap.size + 1 ≤ w1.heap.size := D1.out.lt)
    | (at_make; refine make_cap _ rfl _ _ rfl (w.heap.size + 1) Try.underlying27 info64 _ _ _ _ 5 5 rfl rfl rfl rfl (Nat.le_refl _) (by omega) hsz ?_; intro w2 o2 b2)
    | (go_at_call 48; refine (layout_any _).mono ?_; rintro e w3 ⟨rfl, b3⟩))
  have W0 : WriteSt w w2 n a z u c w1.heap.size 5 (firsts x0 x1 x2 x3 x4 0) := ⟨D1.out.below b2 (Nat.lt_succ_self _), o2, B1.out.trans (b2.mono (Nat.le_succ _))⟩
  replace W0 := Lib.hid (W0.call b3)
  clear D1 B1 hsz o2 b2 b3
  generalize w1.heap.size = g at W0 ⊢
  go_loopw [12] (fun i wr => ∃ k : Nat, k ≤ 5 ∧ i = .int .i64 k ∧ Hid (WriteSt w wr n a z u c g 5 (firsts x0 x1 x2 x3 x4 k))) (fun i _ => 5 - (intOf i).toNat)
  case atStart => exact ⟨0, by omega, rfl, W0⟩
  case round =>
    clear W0
    obtain ⟨k, hk, hi, H⟩ := hrel
    have hk6 : k = 0 ∨ k = 1 ∨ k = 2 ∨ k = 3 ∨ k = 4 ∨ k = 5 := by omega
    clear hk
    rcases hk6 with rfl | rfl | rfl | rfl | rfl | rfl
    · replace hi : _ = Value.int .i64 0 := hi
      subst hi
      have hix := layout_at0
      have hc := fun o => H.out.call ((Below.refl wr.heap.size wr).alloc (Nat.le_refl _) o)
      have d0 := fun o => (hc o).box.c0
      have d1 := fun o => (hc o).box.c1
      have d2 := fun o => (hc o).box.c2
      have d3 := fun o => (hc o).box.c3
      have d4 := fun o => (hc o).box.c4
      clear hc
      go_wp2_with (go_at_call 73; refine (HW0.out _).mono ?_; rintro e w4 ⟨rfl, b4⟩; have H4 := (H.out.call ((Below.refl _ _).alloc (Nat.le_refl _) _)).call b4; obtain ⟨e1, e2, H5⟩ := H4.set rfl (k := 0) (by omega) x0; clear b4 H4; replace H5 := Lib.hid H5)
      go_roundw
      case rel => exact ⟨1, by omega, rfl, H5⟩
      case measure => simp [intOf]
    · replace hi : _ = Value.int .i64 1 := hi
      subst hi
      have hix := layout_at1
      have hc := fun o => H.out.call ((Below.refl wr.heap.size wr).alloc (Nat.le_refl _) o)
      have d0 := fun o => (hc o).box.c0
      have d1 := fun o => (hc o).box.c1
      have d2 := fun o => (hc o).box.c2
      have d3 := fun o => (hc o).box.c3
      have d4 := fun o => (hc o).box.c4
      clear hc
      go_wp2_with (go_at_call 75; refine (HW1.out _).mono ?_; rintro e w4 ⟨rfl, b4⟩; have H4 := (H.out.call ((Below.refl _ _).alloc (Nat.le_refl _) _)).call b4; obtain ⟨e1, e2, H5⟩ := H4.set rfl (k := 1) (by omega) x1; clear b4 H4; replace H5 := Lib.hid H5)
      go_roundw
      case rel => exact ⟨2, by omega, rfl, H5⟩
      case measure => simp [intOf]
    · replace hi : _ = Value.int .i64 2 := hi
      subst hi
      have hix := layout_at2
      have hc := fun o => H.out.call ((Below.refl wr.heap.size wr).alloc (Nat.le_refl _) o)
      have d0 := fun o => (hc o).box.c0
      have d1 := fun o => (hc o).box.c1
      have d2 := fun o => (hc o).box.c2
      have d3 := fun o => (hc o).box.c3
      have d4 := fun o => (hc o).box.c4
      clear hc
      go_wp2_with (go_at_call 77; refine (HW2.out _).mono ?_; rintro e w4 ⟨rfl, b4⟩; have H4 := (H.out.call ((Below.refl _ _).alloc (Nat.le_refl _) _)).call b4; obtain ⟨e1, e2, H5⟩ := H4.set rfl (k := 2) (by omega) x2; clear b4 H4; replace H5 := Lib.hid H5)
      go_roundw
      case rel => exact ⟨3, by omega, rfl, H5⟩
      case measure => simp [intOf]
    · replace hi : _ = Value.int .i64 3 := hi
      subst hi
      have hix := layout_at3
      have hc := fun o => H.out.call ((Below.refl wr.heap.size wr).alloc (Nat.le_refl _) o)
      have d0 := fun o => (hc o).box.c0
      have d1 := fun o => (hc o).box.c1
      have d2 := fun o => (hc o).box.c2
      have d3 := fun o => (hc o).box.c3
      have d4 := fun o => (hc o).box.c4
      clear hc
      go_wp2_with (go_at_call 79; refine (HW3.out _).mono ?_; rintro e w4 ⟨rfl, b4⟩; have H4 := (H.out.call ((Below.refl _ _).alloc (Nat.le_refl _) _)).call b4; obtain ⟨e1, e2, H5⟩ := H4.set rfl (k := 3) (by omega) x3; clear b4 H4; replace H5 := Lib.hid H5)
      go_roundw
      case rel => exact ⟨4, by omega, rfl, H5⟩
      case measure => simp [intOf]
    · replace hi : _ = Value.int .i64 4 := hi
      subst hi
      have hix := layout_at4
      have hc := fun o => H.out.call ((Below.refl wr.heap.size wr).alloc (Nat.le_refl _) o)
      have d0 := fun o => (hc o).box.c0
      have d1 := fun o => (hc o).box.c1
      have d2 := fun o => (hc o).box.c2
      have d3 := fun o => (hc o).box.c3
      have d4 := fun o => (hc o).box.c4
      clear hc
      go_wp2_with (go_at_call 81; refine (HW4.out _).mono ?_; rintro e w4 ⟨rfl, b4⟩; have H4 := (H.out.call ((Below.refl _ _).alloc (Nat.le_refl _) _)).call b4; obtain ⟨e1, e2, H5⟩ := H4.set rfl (k := 4) (by omega) x4; clear b4 H4; replace H5 := Lib.hid H5)
      go_roundw
      case rel => exact ⟨5, by omega, rfl, H5⟩
      case measure => simp [intOf]
    · replace hi : _ = Value.int .i64 5 := hi
      subst hi
      have OW := Lib.hid H.out.own; have BW := Lib.hid H.out.below
      clear H
      go_wp2
      go_ret2
      exact ⟨_, rfl, OW.out.more (Nat.le_succ _), BW.out⟩
end Go.Proofs.Ytjejflngaelgkaa
