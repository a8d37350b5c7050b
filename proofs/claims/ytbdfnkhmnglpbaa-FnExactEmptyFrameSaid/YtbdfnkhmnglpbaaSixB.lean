/-
  Chapter 6: what the program's kinds allow.
  Chapter 6: frames in memory; IsFrame of the program.
-/
import Derived.Test.YtbdfnkhmnglpbaaSixA
import Derived.Test.YtbdfnkhmnglpbaaFiv
namespace Go.Proofs.Ytbdfnkhmnglpbaa
section
open Go.RowKit

theorem normal_allows (q t m r s k : Int) (w : World) : Calls Try.prog 178 #[.agg #[], .agg #[.int .i64 t, .int .i64 m, .int .i64 r, .int .i64 s, .int .i64 k], .int .i64 q] w fun e w' => e = .returned (.bool (stateOk 0 q t m r s k)) ∧ Below w.heap.size w w' := by
  have he := fun w => state_eql t m r s k 0 0 0 0 0 w
  rw [show stateOk 0 q t m r s k = (decide (t = 0) && (decide (m = 0) && (decide (r = 0) && (decide (s = 0) && decide (k = 0))))) from by rw [show stateOk 0 q t m r s k = decide (t = 0 ∧ m = 0 ∧ r = 0 ∧ s = 0 ∧ k = 0) from rfl]; simp only [Bool.decide_and]]
  go_enter Try.func178, Try.ntmps178
  go_wp2
  go_ret
  exact ⟨rfl, ((Below.refl _ _).alloc (Nat.le_refl _) _).alloc (by simp) _⟩
theorem init_allows (q t m r s k : Int) (w : World) : Calls Try.prog 181 #[.agg #[], .agg #[.int .i64 t, .int .i64 m, .int .i64 r, .int .i64 s, .int .i64 k], .int .i64 q] w fun e w' => e = .returned (.bool (stateOk 1 q t m r s k)) ∧ Below w.heap.size w w' := by
  rw [show stateOk 1 q t m r s k = isState t m r s k from rfl]
  go_enter Try.func181, Try.ntmps181
  go_wp2_with fail
  refine (isState_any _ _ _ _ _ _).mono ?_
  rintro e w1 ⟨rfl, b1⟩
  go_wp2
  go_ret
  exact ⟨rfl, below_box2 b1⟩
theorem data_allows (q t m r s k : Int) (w : World) : Calls Try.prog 184 #[.agg #[], .agg #[.int .i64 t, .int .i64 m, .int .i64 r, .int .i64 s, .int .i64 k], .int .i64 q] w fun e w' => e = .returned (.bool (stateOk 2 q t m r s k)) ∧ Below w.heap.size w w' := by
  rw [show stateOk 2 q t m r s k = isState t m r s k from rfl]
  go_enter Try.func184, Try.ntmps184
  go_wp2_with fail
  refine (isState_any _ _ _ _ _ _).mono ?_
  rintro e w1 ⟨rfl, b1⟩
  go_wp2
  go_ret
  exact ⟨rfl, below_box2 b1⟩
theorem state_box {T : Nat} {o : Obj} {w w' : World} {t m r s k : Int} (h : Below ((w.alloc o).alloc (.cells #[.int .i64 t, .int .i64 m, .int .i64 r, .int .i64 s, .int .i64 k] T)).heap.size ((w.alloc o).alloc (.cells #[.int .i64 t, .int .i64 m, .int .i64 r, .int .i64 s, .int .i64 k] T)) w') : StateAt T w' (w.heap.size + 1) t m r s k := by
  have e : (w.alloc o).heap.size = w.heap.size + 1 := by simp
  have := (StateAt.new (T := T) (t := t) (m := m) (r := r) (s := s) (k := k) (w.alloc o)).below h (by simp)
  rwa [e] at this
theorem so3 (q t m r s k : Int) : stateOk 3 q t m r s k = (decide (q = 0) && (isState t m r s k && (decide (m = 0) && decide ((nodesTo k.toNat 32).length = 1)))) := rfl
theorem cold_allows (q t m r s k : Int) (w : World) : Calls Try.prog 187 #[.agg #[], .agg #[.int .i64 t, .int .i64 m, .int .i64 r, .int .i64 s, .int .i64 k], .int .i64 q] w fun e w' => e = .returned (.bool (stateOk 3 q t m r s k)) ∧ Below w.heap.size w w' := by
  rw [so3]
  by_cases h0 : q = 0
  rotate_left
  · have t0 : (q == 0) = false := by simp [h0]
    rw [show decide (q = 0) = false from decide_eq_false h0, Bool.false_and]
    clear h0
    go_enter Try.func187, Try.ntmps187
    go_wp2
    go_ret
    exact ⟨rfl, ((Below.refl _ _).alloc (Nat.le_refl _) _).alloc (by simp) _⟩
  subst h0
  rcases hs : isState t m r s k with _ | _
  · have HS := Lib.hid hs; clear hs
    go_enter Try.func187, Try.ntmps187
    go_wp2_with (go_at_call 78; refine (isState_any _ _ _ _ _ _).mono ?_; rintro e w1 ⟨rfl, b1⟩; rw [HS.out])
    go_ret
    exact ⟨rfl, below_box2 b1⟩
  have hst := isState_iff.1 hs
  obtain ⟨k, rfl⟩ := Int.eq_ofNat_of_zero_le hst.2.2.2.2.1
  rw [show ((k : Nat) : Int).toNat = k from by omega]
  have hlen : (nodesTo k 32).length ≤ 32 := nodesTo_len k 32
  have HS := Lib.hid hs; clear hs hst
  generalize hxs : nodesTo k 32 = xs at hlen ⊢
  have HX := Lib.hid hxs; clear hxs
  by_cases h1 : m = 0
  rotate_left
  · have t1 : (m == 0) = false := by simp [h1]
    rw [show decide (m = 0) = false from decide_eq_false h1, Bool.false_and, Bool.and_false, Bool.and_false]
    clear h1
    go_enter Try.func187, Try.ntmps187
    go_wp2_with (go_at_call 78; refine (isState_any _ _ _ _ _ _).mono ?_; rintro e w1 ⟨rfl, b1⟩; rw [HS.out]; have c1 := (state_box b1).c1)
    go_ret
    exact ⟨rfl, below_box2 b1⟩
  subst h1
  have hl : ((xs.length : Int) == 1) = decide (xs.length = 1) := by rw [Bool.eq_iff_iff]; simp; omega
  rw [show (decide ((0 : Int) = 0) && (true && (decide ((0 : Int) = 0) && decide (xs.length = 1)))) = decide (xs.length = 1) from by simp]
  go_enter Try.func187, Try.ntmps187
  go_wp2_with (first
    | (go_at_call 78; refine (isState_any _ _ _ _ _ _).mono ?_; rintro e w1 ⟨rfl, b1⟩; rw [HS.out]; have c1 := (state_box b1).c1; have c4 := (state_box b1).c4)
    | (go_at_call 190; refine (nodes_any _ _).mono ?_; rintro e w2 m2; rw [HX.out] at m2; obtain ⟨p2, cp2, rfl, -, -, b2⟩ := m2.get))
  go_ret
  exact ⟨rfl, below_two (below_box2 b1) b2⟩
end

section
open Go.RowKit

/-- Block b holds a frame, its data in the slice v. -/
def FrameAt (T : Nat) (w : World) (b : Nat) (a q t m r s k : Int) (v : Value) : Prop := w.heap[b]? = some (.cells #[.int .i64 a, .int .i64 q, .int .i64 t, .int .i64 m, .int .i64 r, .int .i64 s, .int .i64 k, v] T (0, 0))
section
variable {T b : Nat} {w w' : World} {a q t m r s k : Int} {v : Value}
theorem FrameAt.c0 (h : FrameAt T w b a q t m r s k v) : w.cell? ⟨b, 0, none⟩ = some (.int .i64 a) := cell_of_row w b 0 _ _ (0, 0) h
theorem FrameAt.c1 (h : FrameAt T w b a q t m r s k v) : w.cell? ⟨b, 1, none⟩ = some (.int .i64 q) := cell_of_row w b 1 _ _ (0, 0) h
theorem FrameAt.c2 (h : FrameAt T w b a q t m r s k v) : w.cell? ⟨b, 2, none⟩ = some (.int .i64 t) := cell_of_row w b 2 _ _ (0, 0) h
theorem FrameAt.c3 (h : FrameAt T w b a q t m r s k v) : w.cell? ⟨b, 3, none⟩ = some (.int .i64 m) := cell_of_row w b 3 _ _ (0, 0) h
theorem FrameAt.c4 (h : FrameAt T w b a q t m r s k v) : w.cell? ⟨b, 4, none⟩ = some (.int .i64 r) := cell_of_row w b 4 _ _ (0, 0) h
theorem FrameAt.c5 (h : FrameAt T w b a q t m r s k v) : w.cell? ⟨b, 5, none⟩ = some (.int .i64 s) := cell_of_row w b 5 _ _ (0, 0) h
theorem FrameAt.c6 (h : FrameAt T w b a q t m r s k v) : w.cell? ⟨b, 6, none⟩ = some (.int .i64 k) := cell_of_row w b 6 _ _ (0, 0) h
theorem FrameAt.c7 (h : FrameAt T w b a q t m r s k v) : w.cell? ⟨b, 7, none⟩ = some (v) := cell_of_row w b 7 _ _ (0, 0) h
theorem FrameAt.f (h : FrameAt T w b a q t m r s k v) (i : Nat) : w.frozen? ⟨b, i, none⟩ = false := frozen_of_row w b i _ _ h
theorem FrameAt.lt (h : FrameAt T w b a q t m r s k v) : b < w.heap.size := (Array.getElem?_eq_some_iff.1 h).1
theorem FrameAt.grown {g : Option Nat} (h : FrameAt T w b a q t m r s k v) (hg : w.grownBy w' g) (hne : some b ≠ g) : FrameAt T w' b a q t m r s k v := (hg.block b h.lt hne).trans h
theorem FrameAt.below {B : Nat} (h : FrameAt T w b a q t m r s k v) (hb : Below B w w') (hlt : b < B) : FrameAt T w' b a q t m r s k v := (hb.block b hlt).trans h
theorem FrameAt.new (w : World) : FrameAt T (w.alloc (.cells #[.int .i64 a, .int .i64 q, .int .i64 t, .int .i64 m, .int .i64 r, .int .i64 s, .int .i64 k, v] T)) w.heap.size a q t m r s k v := heap_alloc_new w _
theorem FrameAt.other (h : FrameAt T w b a q t m r s k v) {c i : Nat} {u : Value} (hne : b ≠ c) : FrameAt T (w.setCell ⟨c, i, none⟩ u) b a q t m r s k v := (heap_setCell_other _ _ _ _ hne).trans h
theorem FrameAt.set0 (h : FrameAt T w b a q t m r s k v) (z : Int) : FrameAt T (w.setCell ⟨b, 0, none⟩ (.int .i64 z)) b z q t m r s k v := by
  have := heap_setCell_same w b 0 _ _ (.int .i64 z) h
  simpa [FrameAt] using this
theorem FrameAt.set1 (h : FrameAt T w b a q t m r s k v) (z : Int) : FrameAt T (w.setCell ⟨b, 1, none⟩ (.int .i64 z)) b a z t m r s k v := by
  have := heap_setCell_same w b 1 _ _ (.int .i64 z) h
  simpa [FrameAt] using this
theorem FrameAt.set2 (h : FrameAt T w b a q t m r s k v) (z : Int) : FrameAt T (w.setCell ⟨b, 2, none⟩ (.int .i64 z)) b a q z m r s k v := by
  have := heap_setCell_same w b 2 _ _ (.int .i64 z) h
  simpa [FrameAt] using this
theorem FrameAt.set3 (h : FrameAt T w b a q t m r s k v) (z : Int) : FrameAt T (w.setCell ⟨b, 3, none⟩ (.int .i64 z)) b a q t z r s k v := by
  have := heap_setCell_same w b 3 _ _ (.int .i64 z) h
  simpa [FrameAt] using this
theorem FrameAt.set4 (h : FrameAt T w b a q t m r s k v) (z : Int) : FrameAt T (w.setCell ⟨b, 4, none⟩ (.int .i64 z)) b a q t m z s k v := by
  have := heap_setCell_same w b 4 _ _ (.int .i64 z) h
  simpa [FrameAt] using this
theorem FrameAt.set5 (h : FrameAt T w b a q t m r s k v) (z : Int) : FrameAt T (w.setCell ⟨b, 5, none⟩ (.int .i64 z)) b a q t m r z k v := by
  have := heap_setCell_same w b 5 _ _ (.int .i64 z) h
  simpa [FrameAt] using this
theorem FrameAt.set6 (h : FrameAt T w b a q t m r s k v) (z : Int) : FrameAt T (w.setCell ⟨b, 6, none⟩ (.int .i64 z)) b a q t m r s z v := by
  have := heap_setCell_same w b 6 _ _ (.int .i64 z) h
  simpa [FrameAt] using this
theorem FrameAt.set7 (h : FrameAt T w b a q t m r s k v) (z : Value) : FrameAt T (w.setCell ⟨b, 7, none⟩ (z)) b a q t m r s k z := by
  have := heap_setCell_same w b 7 _ _ (z) h
  simpa [FrameAt] using this
end
/-- The frame that a call lays first reads as it was behind whatever leaves old memory alone. -/
theorem frame_new {T : Nat} {w w' : World} {a q t m r s k : Int} {v : Value} (h : Below (w.alloc (.cells #[.int .i64 a, .int .i64 q, .int .i64 t, .int .i64 m, .int .i64 r, .int .i64 s, .int .i64 k, v] T)).heap.size (w.alloc (.cells #[.int .i64 a, .int .i64 q, .int .i64 t, .int .i64 m, .int .i64 r, .int .i64 s, .int .i64 k, v] T)) w') : FrameAt T w' w.heap.size a q t m r s k v :=
  (FrameAt.new w).below h (by simp)
theorem if_kind {a q t m r s k : Int} {xs : List Int} (h : kindOk a = false) : isFrame ⟨a, q, t, m, r, s, k, xs⟩ = false := by simp [isFrame, h]
theorem if_req {a q t m r s k : Int} {xs : List Int} (h : inRange 0 7 q = false) : isFrame ⟨a, q, t, m, r, s, k, xs⟩ = false := by simp [isFrame, h]
theorem if_state {a q t m r s k : Int} {xs : List Int} (h : stateOk a q t m r s k = false) : isFrame ⟨a, q, t, m, r, s, k, xs⟩ = false := by simp [isFrame, h]
theorem if_size {a q t m r s k : Int} {xs : List Int} (h : sizeOk a xs.length = false) : isFrame ⟨a, q, t, m, r, s, k, xs⟩ = false := by simp [isFrame, h]
theorem if_all {a q t m r s k : Int} {xs : List Int} (h1 : kindOk a = true) (h2 : inRange 0 7 q = true) (h3 : stateOk a q t m r s k = true) (h4 : sizeOk a xs.length = true) : isFrame ⟨a, q, t, m, r, s, k, xs⟩ = isBytes xs := by simp [isFrame, h1, h2, h3, h4]

set_option maxRecDepth 100000 in
theorem isFrame_bad (a q t m r s k : Int) (ao : Option Addr) (cap : Nat) (xs : List Int) (w : World) (hk : kindOk a = false) : Calls Try.prog 52 #[.agg #[.int .i64 a, .int .i64 q, .int .i64 t, .int .i64 m, .int .i64 r, .int .i64 s, .int .i64 k, .slice ao xs.length cap]] w fun e w' => e = .returned (.bool false) ∧ Below w.heap.size w w' := by
  obtain ⟨K, hK⟩ : ∃ K, kindVal a = K := ⟨_, rfl⟩
  have HK := Lib.hid hk; have HV := Lib.hid hK; clear hk hK
  go_enter Try.func52, Try.ntmps52
  go_wp2_with (go_at_call 110; refine (frameKindOf_any _ _).mono ?_; rintro e w1 ⟨rfl, rfl⟩; rw [HK.out, HV.out])
  go_ret
  exact ⟨rfl, (Below.refl _ _).alloc (Nat.le_refl _) _⟩
set_option maxRecDepth 100000 in
theorem isFrame0 (q t m r s k : Int) (ao : Option Addr) (cap : Nat) (xs : List Int) (w : World) (hr : Rd w ao xs.length xs) (hn : xs.length ≤ 1048576) : Calls Try.prog 52 #[.agg #[.int .i64 0, .int .i64 q, .int .i64 t, .int .i64 m, .int .i64 r, .int .i64 s, .int .i64 k, .slice ao xs.length cap]] w fun e w' => e = .returned (.bool (isFrame ⟨0, q, t, m, r, s, k, xs⟩)) ∧ Below w.heap.size w w' := by
  have hk : kindVal 0 = .iface 149 (.agg #[]) := rfl
  have HK : kindOk 0 = true := rfl
  have ha : ∀ w : World, (nilAhead 287 149 (.agg #[]) "loop.example/g00833/impl.allows").run Try.prog w = .ok (some false) w := fun _ => by kernel_rfl
  have hm : ∀ w : World, (method 287 149 (.agg #[]) "loop.example/g00833/impl.allows").run Try.prog w = .ok (178, .agg #[]) w := fun _ => by kernel_rfl
  rcases hq : inRange 0 7 q with _ | _
  · rw [if_req hq]
    have hq := mt inRange_iff.2 (by rw [hq]; simp)
    by_cases h0 : 0 ≤ q
    · have h1 : 7 < q := by omega
      go_enter Try.func52, Try.ntmps52
      go_wp2_with (go_at_call 110; refine (frameKindOf_any _ _).mono ?_; rintro e w1 ⟨rfl, rfl⟩; rw [hk, HK])
      go_ret
      exact ⟨rfl, (Below.refl _ _).alloc (Nat.le_refl _) _⟩
    · go_enter Try.func52, Try.ntmps52
      go_wp2_with (go_at_call 110; refine (frameKindOf_any _ _).mono ?_; rintro e w1 ⟨rfl, rfl⟩; rw [hk, HK])
      go_ret
      exact ⟨rfl, (Below.refl _ _).alloc (Nat.le_refl _) _⟩
  have hq2 := inRange_iff.1 hq
  obtain ⟨hq0, hq1⟩ := hq2
  have hb : Below w.heap.size w (w.alloc (.cells #[.int .i64 0, .int .i64 q, .int .i64 t, .int .i64 m, .int .i64 r, .int .i64 s, .int .i64 k, .slice ao xs.length cap] 28)) := (Below.refl _ _).alloc (Nat.le_refl _) _
  have HR := Lib.hid (hr.below hb); clear hb hr
  rcases hs : stateOk 0 q t m r s k with _ | _
  · rw [if_state hs]
    have HS := Lib.hid hs; clear hs hq
    go_enter Try.func52, Try.ntmps52
    go_wp2_with (first | (go_at_call 110; refine (frameKindOf_any _ _).mono ?_; rintro e w1 ⟨rfl, rfl⟩; rw [hk, HK]) | (go_at_call 178; refine (normal_allows _ _ _ _ _ _ _).mono ?_; rintro e w2 ⟨rfl, b2⟩; rw [HS.out]; have c7 := (frame_new b2).c7))
    go_ret
    exact ⟨rfl, below_box b2⟩
  rcases hz : sizeOk 0 xs.length with _ | _
  · rw [if_size hz]
    have HS := Lib.hid hs; have HZ := Lib.hid hz; clear hs hq hz
    go_enter Try.func52, Try.ntmps52
    go_wp2_with (first | (go_at_call 110; refine (frameKindOf_any _ _).mono ?_; rintro e w1 ⟨rfl, rfl⟩; rw [hk, HK]) | (go_at_call 178; refine (normal_allows _ _ _ _ _ _ _).mono ?_; rintro e w2 ⟨rfl, b2⟩; rw [HS.out]; have c7 := (frame_new b2).c7) | (go_at_call 111; rw [← hk]; refine (hasDataSize_any _ _ _ HK).mono ?_; rintro e w3 ⟨rfl, b3⟩; rw [HZ.out]; have b4 := below_two b2 b3; have c7' := (frame_new b4).c7))
    go_ret
    exact ⟨rfl, below_box b4⟩
  rw [if_all HK hq hs hz]
  have HS := Lib.hid hs; have HZ := Lib.hid hz; clear hs hq hz
  go_enter Try.func52, Try.ntmps52
  go_wp2_with (first | (go_at_call 110; refine (frameKindOf_any _ _).mono ?_; rintro e w1 ⟨rfl, rfl⟩; rw [hk, HK]) | (go_at_call 178; refine (normal_allows _ _ _ _ _ _ _).mono ?_; rintro e w2 ⟨rfl, b2⟩; rw [HS.out]; have c7 := (frame_new b2).c7) | (go_at_call 111; rw [← hk]; refine (hasDataSize_any _ _ _ HK).mono ?_; rintro e w3 ⟨rfl, b3⟩; rw [HZ.out]; have b4 := below_two b2 b3; have c7' := (frame_new b4).c7) | (go_at_call 84; refine (isBytes_any _ _ _ _ _ (HR.out.below b4) (by omega)).mono ?_; rintro e w5 ⟨rfl, rfl⟩))
  go_ret
  exact ⟨rfl, below_box b4⟩
set_option maxRecDepth 100000 in
theorem isFrame1 (q t m r s k : Int) (ao : Option Addr) (cap : Nat) (xs : List Int) (w : World) (hr : Rd w ao xs.length xs) (hn : xs.length ≤ 1048576) : Calls Try.prog 52 #[.agg #[.int .i64 1, .int .i64 q, .int .i64 t, .int .i64 m, .int .i64 r, .int .i64 s, .int .i64 k, .slice ao xs.length cap]] w fun e w' => e = .returned (.bool (isFrame ⟨1, q, t, m, r, s, k, xs⟩)) ∧ Below w.heap.size w w' := by
  have hk : kindVal 1 = .iface 150 (.agg #[]) := rfl
  have HK : kindOk 1 = true := rfl
  have ha : ∀ w : World, (nilAhead 287 150 (.agg #[]) "loop.example/g00833/impl.allows").run Try.prog w = .ok (some false) w := fun _ => by kernel_rfl
  have hm : ∀ w : World, (method 287 150 (.agg #[]) "loop.example/g00833/impl.allows").run Try.prog w = .ok (181, .agg #[]) w := fun _ => by kernel_rfl
  rcases hq : inRange 0 7 q with _ | _
  · rw [if_req hq]
    have hq := mt inRange_iff.2 (by rw [hq]; simp)
    by_cases h0 : 0 ≤ q
    · have h1 : 7 < q := by omega
      go_enter Try.func52, Try.ntmps52
      go_wp2_with (go_at_call 110; refine (frameKindOf_any _ _).mono ?_; rintro e w1 ⟨rfl, rfl⟩; rw [hk, HK])
      go_ret
      exact ⟨rfl, (Below.refl _ _).alloc (Nat.le_refl _) _⟩
    · go_enter Try.func52, Try.ntmps52
      go_wp2_with (go_at_call 110; refine (frameKindOf_any _ _).mono ?_; rintro e w1 ⟨rfl, rfl⟩; rw [hk, HK])
      go_ret
      exact ⟨rfl, (Below.refl _ _).alloc (Nat.le_refl _) _⟩
  have hq2 := inRange_iff.1 hq
  obtain ⟨hq0, hq1⟩ := hq2
  have hb : Below w.heap.size w (w.alloc (.cells #[.int .i64 1, .int .i64 q, .int .i64 t, .int .i64 m, .int .i64 r, .int .i64 s, .int .i64 k, .slice ao xs.length cap] 28)) := (Below.refl _ _).alloc (Nat.le_refl _) _
  have HR := Lib.hid (hr.below hb); clear hb hr
  rcases hs : stateOk 1 q t m r s k with _ | _
  · rw [if_state hs]
    have HS := Lib.hid hs; clear hs hq
    go_enter Try.func52, Try.ntmps52
    go_wp2_with (first | (go_at_call 110; refine (frameKindOf_any _ _).mono ?_; rintro e w1 ⟨rfl, rfl⟩; rw [hk, HK]) | (go_at_call 181; refine (init_allows _ _ _ _ _ _ _).mono ?_; rintro e w2 ⟨rfl, b2⟩; rw [HS.out]; have c7 := (frame_new b2).c7))
    go_ret
    exact ⟨rfl, below_box b2⟩
  rcases hz : sizeOk 1 xs.length with _ | _
  · rw [if_size hz]
    have HS := Lib.hid hs; have HZ := Lib.hid hz; clear hs hq hz
    go_enter Try.func52, Try.ntmps52
    go_wp2_with (first | (go_at_call 110; refine (frameKindOf_any _ _).mono ?_; rintro e w1 ⟨rfl, rfl⟩; rw [hk, HK]) | (go_at_call 181; refine (init_allows _ _ _ _ _ _ _).mono ?_; rintro e w2 ⟨rfl, b2⟩; rw [HS.out]; have c7 := (frame_new b2).c7) | (go_at_call 111; rw [← hk]; refine (hasDataSize_any _ _ _ HK).mono ?_; rintro e w3 ⟨rfl, b3⟩; rw [HZ.out]; have b4 := below_two b2 b3; have c7' := (frame_new b4).c7))
    go_ret
    exact ⟨rfl, below_box b4⟩
  rw [if_all HK hq hs hz]
  have HS := Lib.hid hs; have HZ := Lib.hid hz; clear hs hq hz
  go_enter Try.func52, Try.ntmps52
  go_wp2_with (first | (go_at_call 110; refine (frameKindOf_any _ _).mono ?_; rintro e w1 ⟨rfl, rfl⟩; rw [hk, HK]) | (go_at_call 181; refine (init_allows _ _ _ _ _ _ _).mono ?_; rintro e w2 ⟨rfl, b2⟩; rw [HS.out]; have c7 := (frame_new b2).c7) | (go_at_call 111; rw [← hk]; refine (hasDataSize_any _ _ _ HK).mono ?_; rintro e w3 ⟨rfl, b3⟩; rw [HZ.out]; have b4 := below_two b2 b3; have c7' := (frame_new b4).c7) | (go_at_call 84; refine (isBytes_any _ _ _ _ _ (HR.out.below b4) (by omega)).mono ?_; rintro e w5 ⟨rfl, rfl⟩))
  go_ret
  exact ⟨rfl, below_box b4⟩
set_option maxRecDepth 100000 in
theorem isFrame2 (q t m r s k : Int) (ao : Option Addr) (cap : Nat) (xs : List Int) (w : World) (hr : Rd w ao xs.length xs) (hn : xs.length ≤ 1048576) : Calls Try.prog 52 #[.agg #[.int .i64 2, .int .i64 q, .int .i64 t, .int .i64 m, .int .i64 r, .int .i64 s, .int .i64 k, .slice ao xs.length cap]] w fun e w' => e = .returned (.bool (isFrame ⟨2, q, t, m, r, s, k, xs⟩)) ∧ Below w.heap.size w w' := by
  have hk : kindVal 2 = .iface 151 (.agg #[]) := rfl
  have HK : kindOk 2 = true := rfl
  have ha : ∀ w : World, (nilAhead 287 151 (.agg #[]) "loop.example/g00833/impl.allows").run Try.prog w = .ok (some false) w := fun _ => by kernel_rfl
  have hm : ∀ w : World, (method 287 151 (.agg #[]) "loop.example/g00833/impl.allows").run Try.prog w = .ok (184, .agg #[]) w := fun _ => by kernel_rfl
  rcases hq : inRange 0 7 q with _ | _
  · rw [if_req hq]
    have hq := mt inRange_iff.2 (by rw [hq]; simp)
    by_cases h0 : 0 ≤ q
    · have h1 : 7 < q := by omega
      go_enter Try.func52, Try.ntmps52
      go_wp2_with (go_at_call 110; refine (frameKindOf_any _ _).mono ?_; rintro e w1 ⟨rfl, rfl⟩; rw [hk, HK])
      go_ret
      exact ⟨rfl, (Below.refl _ _).alloc (Nat.le_refl _) _⟩
    · go_enter Try.func52, Try.ntmps52
      go_wp2_with (go_at_call 110; refine (frameKindOf_any _ _).mono ?_; rintro e w1 ⟨rfl, rfl⟩; rw [hk, HK])
      go_ret
      exact ⟨rfl, (Below.refl _ _).alloc (Nat.le_refl _) _⟩
  have hq2 := inRange_iff.1 hq
  obtain ⟨hq0, hq1⟩ := hq2
  have hb : Below w.heap.size w (w.alloc (.cells #[.int .i64 2, .int .i64 q, .int .i64 t, .int .i64 m, .int .i64 r, .int .i64 s, .int .i64 k, .slice ao xs.length cap] 28)) := (Below.refl _ _).alloc (Nat.le_refl _) _
  have HR := Lib.hid (hr.below hb); clear hb hr
  rcases hs : stateOk 2 q t m r s k with _ | _
  · rw [if_state hs]
    have HS := Lib.hid hs; clear hs hq
    go_enter Try.func52, Try.ntmps52
    go_wp2_with (first | (go_at_call 110; refine (frameKindOf_any _ _).mono ?_; rintro e w1 ⟨rfl, rfl⟩; rw [hk, HK]) | (go_at_call 184; refine (data_allows _ _ _ _ _ _ _).mono ?_; rintro e w2 ⟨rfl, b2⟩; rw [HS.out]; have c7 := (frame_new b2).c7))
    go_ret
    exact ⟨rfl, below_box b2⟩
  rcases hz : sizeOk 2 xs.length with _ | _
  · rw [if_size hz]
    have HS := Lib.hid hs; have HZ := Lib.hid hz; clear hs hq hz
    go_enter Try.func52, Try.ntmps52
    go_wp2_with (first | (go_at_call 110; refine (frameKindOf_any _ _).mono ?_; rintro e w1 ⟨rfl, rfl⟩; rw [hk, HK]) | (go_at_call 184; refine (data_allows _ _ _ _ _ _ _).mono ?_; rintro e w2 ⟨rfl, b2⟩; rw [HS.out]; have c7 := (frame_new b2).c7) | (go_at_call 111; rw [← hk]; refine (hasDataSize_any _ _ _ HK).mono ?_; rintro e w3 ⟨rfl, b3⟩; rw [HZ.out]; have b4 := below_two b2 b3; have c7' := (frame_new b4).c7))
    go_ret
    exact ⟨rfl, below_box b4⟩
  rw [if_all HK hq hs hz]
  have HS := Lib.hid hs; have HZ := Lib.hid hz; clear hs hq hz
  go_enter Try.func52, Try.ntmps52
  go_wp2_with (first | (go_at_call 110; refine (frameKindOf_any _ _).mono ?_; rintro e w1 ⟨rfl, rfl⟩; rw [hk, HK]) | (go_at_call 184; refine (data_allows _ _ _ _ _ _ _).mono ?_; rintro e w2 ⟨rfl, b2⟩; rw [HS.out]; have c7 := (frame_new b2).c7) | (go_at_call 111; rw [← hk]; refine (hasDataSize_any _ _ _ HK).mono ?_; rintro e w3 ⟨rfl, b3⟩; rw [HZ.out]; have b4 := below_two b2 b3; have c7' := (frame_new b4).c7) | (go_at_call 84; refine (isBytes_any _ _ _ _ _ (HR.out.below b4) (by omega)).mono ?_; rintro e w5 ⟨rfl, rfl⟩))
  go_ret
  exact ⟨rfl, below_box b4⟩
set_option maxRecDepth 100000 in
theorem isFrame3 (q t m r s k : Int) (ao : Option Addr) (cap : Nat) (xs : List Int) (w : World) (hr : Rd w ao xs.length xs) (hn : xs.length ≤ 1048576) : Calls Try.prog 52 #[.agg #[.int .i64 3, .int .i64 q, .int .i64 t, .int .i64 m, .int .i64 r, .int .i64 s, .int .i64 k, .slice ao xs.length cap]] w fun e w' => e = .returned (.bool (isFrame ⟨3, q, t, m, r, s, k, xs⟩)) ∧ Below w.heap.size w w' := by
  have hk : kindVal 3 = .iface 152 (.agg #[]) := rfl
  have HK : kindOk 3 = true := rfl
  have ha : ∀ w : World, (nilAhead 287 152 (.agg #[]) "loop.example/g00833/impl.allows").run Try.prog w = .ok (some false) w := fun _ => by kernel_rfl
  have hm : ∀ w : World, (method 287 152 (.agg #[]) "loop.example/g00833/impl.allows").run Try.prog w = .ok (187, .agg #[]) w := fun _ => by kernel_rfl
  rcases hq : inRange 0 7 q with _ | _
  · rw [if_req hq]
    have hq := mt inRange_iff.2 (by rw [hq]; simp)
    by_cases h0 : 0 ≤ q
    · have h1 : 7 < q := by omega
      go_enter Try.func52, Try.ntmps52
      go_wp2_with (go_at_call 110; refine (frameKindOf_any _ _).mono ?_; rintro e w1 ⟨rfl, rfl⟩; rw [hk, HK])
      go_ret
      exact ⟨rfl, (Below.refl _ _).alloc (Nat.le_refl _) _⟩
    · go_enter Try.func52, Try.ntmps52
      go_wp2_with (go_at_call 110; refine (frameKindOf_any _ _).mono ?_; rintro e w1 ⟨rfl, rfl⟩; rw [hk, HK])
      go_ret
      exact ⟨rfl, (Below.refl _ _).alloc (Nat.le_refl _) _⟩
  have hq2 := inRange_iff.1 hq
  obtain ⟨hq0, hq1⟩ := hq2
  have hb : Below w.heap.size w (w.alloc (.cells #[.int .i64 3, .int .i64 q, .int .i64 t, .int .i64 m, .int .i64 r, .int .i64 s, .int .i64 k, .slice ao xs.length cap] 28)) := (Below.refl _ _).alloc (Nat.le_refl _) _
  have HR := Lib.hid (hr.below hb); clear hb hr
  rcases hs : stateOk 3 q t m r s k with _ | _
  · rw [if_state hs]
    have HS := Lib.hid hs; clear hs hq
    go_enter Try.func52, Try.ntmps52
    go_wp2_with (first | (go_at_call 110; refine (frameKindOf_any _ _).mono ?_; rintro e w1 ⟨rfl, rfl⟩; rw [hk, HK]) | (go_at_call 187; refine (cold_allows _ _ _ _ _ _ _).mono ?_; rintro e w2 ⟨rfl, b2⟩; rw [HS.out]; have c7 := (frame_new b2).c7))
    go_ret
    exact ⟨rfl, below_box b2⟩
  rcases hz : sizeOk 3 xs.length with _ | _
  · rw [if_size hz]
    have HS := Lib.hid hs; have HZ := Lib.hid hz; clear hs hq hz
    go_enter Try.func52, Try.ntmps52
    go_wp2_with (first | (go_at_call 110; refine (frameKindOf_any _ _).mono ?_; rintro e w1 ⟨rfl, rfl⟩; rw [hk, HK]) | (go_at_call 187; refine (cold_allows _ _ _ _ _ _ _).mono ?_; rintro e w2 ⟨rfl, b2⟩; rw [HS.out]; have c7 := (frame_new b2).c7) | (go_at_call 111; rw [← hk]; refine (hasDataSize_any _ _ _ HK).mono ?_; rintro e w3 ⟨rfl, b3⟩; rw [HZ.out]; have b4 := below_two b2 b3; have c7' := (frame_new b4).c7))
    go_ret
    exact ⟨rfl, below_box b4⟩
  rw [if_all HK hq hs hz]
  have HS := Lib.hid hs; have HZ := Lib.hid hz; clear hs hq hz
  go_enter Try.func52, Try.ntmps52
  go_wp2_with (first | (go_at_call 110; refine (frameKindOf_any _ _).mono ?_; rintro e w1 ⟨rfl, rfl⟩; rw [hk, HK]) | (go_at_call 187; refine (cold_allows _ _ _ _ _ _ _).mono ?_; rintro e w2 ⟨rfl, b2⟩; rw [HS.out]; have c7 := (frame_new b2).c7) | (go_at_call 111; rw [← hk]; refine (hasDataSize_any _ _ _ HK).mono ?_; rintro e w3 ⟨rfl, b3⟩; rw [HZ.out]; have b4 := below_two b2 b3; have c7' := (frame_new b4).c7) | (go_at_call 84; refine (isBytes_any _ _ _ _ _ (HR.out.below b4) (by omega)).mono ?_; rintro e w5 ⟨rfl, rfl⟩))
  go_ret
  exact ⟨rfl, below_box b4⟩
theorem isFrame_any (a q t m r s k : Int) (ao : Option Addr) (cap : Nat) (xs : List Int) (w : World) (hr : Rd w ao xs.length xs) (hn : xs.length ≤ 1048576) : Calls Try.prog 52 #[.agg #[.int .i64 a, .int .i64 q, .int .i64 t, .int .i64 m, .int .i64 r, .int .i64 s, .int .i64 k, .slice ao xs.length cap]] w fun e w' => e = .returned (.bool (isFrame ⟨a, q, t, m, r, s, k, xs⟩)) ∧ Below w.heap.size w w' := by
  rcases hk : kindOk a with _ | _
  · rw [if_kind hk]; exact isFrame_bad a q t m r s k ao cap xs w hk
  rcases kindOk_four hk with rfl | rfl | rfl | rfl
  · exact isFrame0 q t m r s k ao cap xs w hr hn
  · exact isFrame1 q t m r s k ao cap xs w hr hn
  · exact isFrame2 q t m r s k ao cap xs w hr hn
  · exact isFrame3 q t m r s k ao cap xs w hr hn
end
end Go.Proofs.Ytbdfnkhmnglpbaa
