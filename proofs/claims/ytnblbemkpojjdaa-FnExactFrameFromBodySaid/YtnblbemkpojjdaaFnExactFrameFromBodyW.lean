/-
  The walk of laws.FnExactFrameFromBody: at every input it returns true and writes nothing that was there.
-/
import Derived.Test.YtnblbemkpojjdaaRows
import Derived.Test.YtnblbemkpojjdaaGH
import Derived.Test.YtnblbemkpojjdaaBase
import Derived.WalkKit
import Derived.ProofKit
import Derived.OpenShut
import Derived.ShutString
import Derived.ChangeOld
import Derived.Below
namespace Go.Proofs.Ytnblbemkpojjdaa.fnExactFrameFromBody
open Go.ChangeShapes Go.WideShapes Go.ChangeAt Go.RowKit
open Go.ChangeMaps (open_string shut_string)
set_option linter.unusedVariables false


/-- WHAT THE WALK IS TOLD OF A SLICE OF INTEGERS THAT CAME IN: it is nil; or it leads to a row of 'cap' cells, the numbers 'zs' (the first 'len' are its elements, the rest its spare room), each fitting its kind. -/
def IsRow (k : IntKind) (w : World) (a : Option Addr) (len cap : Nat) (zs : List Int) : Prop :=
  (a = none ∧ len = 0 ∧ cap = 0 ∧ zs = []) ∨
  ∃ x, a = some x ∧ len ≤ cap ∧ cap ≤ maxLen ∧ zs.length = cap ∧ (∀ i, i < zs.length → w.cell? (x.add i) = some (.int k (zs.getD i 0))) ∧ ∀ n ∈ zs, (Lit.int k n).wf = true

/-! ### STEP 1: THE WALK: the Go text returns true, AND WRITES NOTHING THAT WAS THERE: 'Below w.heap.size w w'' (Derived/Below.lean: '.refl', '.alloc', '.drew', '.setCell' at a new block, '.trans'). Open each 'IsRow' by 'rcases' AHEAD of 'go_enter'; part every test ahead of the walk. -/
set_option maxHeartbeats 1000000 in set_option maxRecDepth 100000 in
theorem walk (a0 : Option Addr) (len0 cap0 : Nat) (z0 : List Int) (w : World) (w0 : IsRow .i64 w a0 len0 cap0 z0) :
    Calls Try.prog 7 #[.slice a0 len0 cap0] w fun e w' => e = .returned (.bool true) ∧ Below w.heap.size w w' := by
  have hr := rd_of_row w0
  clear w0
  generalize List.take len0 z0 = xs at hr
  obtain rfl : xs.length = len0 := hr.len
  by_cases hbig : xs.length ≤ 1048576
  rotate_left
  · go_enter Try.func7, Try.ntmps7
    go_wp2
    go_ret
    exact ⟨rfl, Below.refl _ _⟩
  obtain ⟨⟨a, q, t, m, r, s, k, d⟩, c, hF⟩ : ∃ f c, frameFrom xs = (f, c) := ⟨_, _, rfl⟩
  have hdl : d.length ≤ 1048576 := by have h := frameFrom_len xs; rw [hF] at h; simp only at h; omega
  have HF := Lib.hid hF; clear hF
  have H : Held 2 w w [] := Held.start
  go_enter Try.func7, Try.ntmps7
  go_wp2_with fail
  refine (toInt_any _ _ _ _ _ (hr.below H.below) hbig).mono ?_
  rintro e w1 m1
  obtain ⟨p1, c1, rfl, o1, -, b1⟩ := m1.get
  clear m1
  replace H := H.make o1 b1
  clear o1 b1
  go_wp2_with fail
  refine (sFrameFromBody_any _ _ _ _ (H.rd 0 rfl rfl) hbig (Own.cap (H.get 0 rfl)).1 (Own.cap (H.get 0 rfl)).2).mono ?_
  intro e w2 h2
  rw [HF.out] at h2
  obtain ⟨p2, c2, rfl, o2, b2⟩ := h2
  (try clear h2)
  simp only at o2 ⊢
  replace H := H.make o2 b2
  clear o2 b2
  go_wp2_with fail
  have hal : Below w2.heap.size w2 (w2.alloc (.cells #[.int .i64 a, .int .i64 q, .int .i64 t, .int .i64 m, .int .i64 r, .int .i64 s, .int .i64 k, .slice p2 d.length c2] 28)) := (Below.refl _ _).alloc (Nat.le_refl _) _
  have W := FrameAt.new (T := 28) (a := a) (q := q) (t := t) (m := m) (r := r) (s := s) (k := k) (v := .slice p2 d.length c2) w2
  replace H := H.still hal
  clear hal
  obtain ⟨bW, hbW⟩ : ∃ b, b = w2.heap.size := ⟨_, rfl⟩
  rw [← hbW] at W ⊢
  clear hbW
  generalize w2.alloc (.cells #[.int .i64 a, .int .i64 q, .int .i64 t, .int .i64 m, .int .i64 r, .int .i64 s, .int .i64 k, .slice p2 d.length c2] 28) = w3 at W H ⊢
  refine (toInt_any _ _ _ _ _ (hr.below H.below) hbig).mono ?_
  rintro e w4 m4
  obtain ⟨p4, c4, rfl, o4, -, b4⟩ := m4.get
  clear m4
  have lox := above_box o4 W.lt
  replace W := W.below b4 W.lt
  replace H := H.make o4 b4
  clear o4 b4
  go_wp2_with fail
  refine (frameFromBody_any _ _ _ _ (H.rd 0 rfl rfl) hbig (Own.cap (H.get 0 rfl)).1 (Own.cap (H.get 0 rfl)).2).mono ?_
  intro e w5 h5
  rw [HF.out] at h5
  obtain ⟨p5, c5, rfl, o5, b5⟩ := h5
  (try clear h5)
  simp only at o5 ⊢
  have log := above_box o5 W.lt
  replace W := W.below b5 W.lt
  replace H := H.make o5 b5
  clear o5 b5
  have w0' := W.c0
  have w1' := W.c1
  have w2' := W.c2
  have w3' := W.c3
  have w4' := W.c4
  have w5' := W.c5
  have w6' := W.c6
  have w7' := W.c7
  have wl' := W.lt
  go_wp2_with fail
  clear w0' w1' w2' w3' w4' w5' w6' w7' wl'
  have hal : Below w5.heap.size w5 (w5.alloc (.cells #[.int .i64 a, .int .i64 q, .int .i64 t, .int .i64 m, .int .i64 r, .int .i64 s, .int .i64 k, .slice p5 d.length c5] 28)) := (Below.refl _ _).alloc (Nat.le_refl _) _
  have G := FrameAt.new (T := 28) (a := a) (q := q) (t := t) (m := m) (r := r) (s := s) (k := k) (v := .slice p5 d.length c5) w5
  have hix := below_size' (H.get 1 rfl)
  have hig := below_size' (H.get 0 rfl)
  replace W := W.below hal W.lt
  replace H := H.still hal
  clear hal
  obtain ⟨bG, hbG⟩ : ∃ b, b = w5.heap.size := ⟨_, rfl⟩
  rw [← hbG] at G hix hig ⊢
  clear hbG
  generalize w5.alloc (.cells #[.int .i64 a, .int .i64 q, .int .i64 t, .int .i64 m, .int .i64 r, .int .i64 s, .int .i64 k, .slice p5 d.length c5] 28) = w6 at W G H ⊢
  refine (eqFrame_yes _ _ _ _ _ _ _ _ _ _ _ _ _ (H.rd 0 rfl rfl) (H.rd 2 rfl rfl) hdl).mono ?_
  rintro e w7 ⟨rfl, b7⟩
  replace W := W.below b7 W.lt
  replace G := G.below b7 G.lt
  replace H := H.still b7
  clear b7
  go_wp2_with fail
  refine (toInt_any _ _ _ _ _ (hr.below H.below) hbig).mono ?_
  rintro e w8 m8
  obtain ⟨p8, c8, rfl, o8, -, b8⟩ := m8.get
  clear m8
  replace W := W.below b8 W.lt
  replace G := G.below b8 G.lt
  replace H := H.make o8 b8
  clear o8 b8
  go_wp2_with fail
  refine (eq_yes _ _ _ _ _ _ _ _ (H.rd 2 rfl rfl) (H.rd 0 rfl rfl) (by omega)).mono ?_
  rintro e w9 ⟨rfl, b9⟩
  replace W := W.below b9 W.lt
  replace G := G.below b9 G.lt
  replace H := H.still b9
  clear b9
  go_wp2_with fail
  refine (mark_own _ _ _ _ _ _ _ rfl (H.get 2 rfl) (by omega) (by omega) (by omega)).mono ?_
  rintro e w10 ⟨rfl, o10, g10⟩
  replace W := W.grown g10 (ne_below lox)
  replace G := G.grown g10 (ne_above hix)
  replace H := H.mark [(.slice p8 xs.length c8, xs), (.slice p5 d.length c5, d)] o10 g10
  clear o10 g10
  have g0 := G.c0
  have g1 := G.c1
  have g2 := G.c2
  have g3 := G.c3
  have g4 := G.c4
  have g5 := G.c5
  have g6 := G.c6
  have g7 := G.c7
  have w0 := W.c0
  have w1 := W.c1
  have w2 := W.c2
  have w3 := W.c3
  have w4 := W.c4
  have w5 := W.c5
  have w6 := W.c6
  have w7 := W.c7
  go_wp2_with fail
  clear g0 g1 g2 g3 g4 g5 g6 g7 w0 w1 w2 w3 w4 w5 w6 w7
  refine (eqFrame_yes _ _ _ _ _ _ _ _ _ _ _ _ _ (H.rd 1 rfl rfl) (H.rd 3 rfl rfl) hdl).mono ?_
  rintro e w11 ⟨rfl, b11⟩
  replace W := W.below b11 W.lt
  replace G := G.below b11 G.lt
  replace H := H.still b11
  clear b11
  have g0 := G.c0
  have g1 := G.c1
  have g2 := G.c2
  have g3 := G.c3
  have g4 := G.c4
  have g5 := G.c5
  have g6 := G.c6
  have g7 := G.c7
  go_wp2_with fail
  clear g0 g1 g2 g3 g4 g5 g6 g7
  refine (markFrame_own _ _ _ _ _ _ _ _ _ _ _ _ _ _ rfl (H.get 1 rfl) (by omega) (by omega) (by omega)).mono ?_
  rintro e w12 ⟨rfl, o12, g12⟩
  replace W := W.grown g12 (ne_below log)
  replace G := G.grown g12 (ne_above hig)
  replace H := H.mark [(.slice p8 xs.length c8, xs)] o12 g12
  clear o12 g12
  have g0 := G.c0
  have g1 := G.c1
  have g2 := G.c2
  have g3 := G.c3
  have g4 := G.c4
  have g5 := G.c5
  have g6 := G.c6
  have g7 := G.c7
  go_wp2_with fail
  clear g0 g1 g2 g3 g4 g5 g6 g7
  refine (heldFrame_yes _ _ _ _ _ _ _ _ _ _ _ _ (H.rd 1 rfl (marks_len _ _)) (by omega) (by omega) (by omega)).mono ?_
  rintro e w13 ⟨rfl, b13⟩
  replace W := W.below b13 W.lt
  replace G := G.below b13 G.lt
  replace H := H.still b13
  clear b13
  go_wp2_with fail
  refine (toInt_any _ _ _ _ _ (hr.below H.below) hbig).mono ?_
  rintro e w14 m14
  obtain ⟨p14, c14, rfl, o14, -, b14⟩ := m14.get
  clear m14
  replace W := W.below b14 W.lt
  replace G := G.below b14 G.lt
  replace H := H.make o14 b14
  clear o14 b14
  go_wp2_with fail
  refine (frameFromBody_any _ _ _ _ (H.rd 0 rfl rfl) hbig (Own.cap (H.get 0 rfl)).1 (Own.cap (H.get 0 rfl)).2).mono ?_
  intro e w15 h15
  rw [HF.out] at h15
  obtain ⟨p15, c15, rfl, o15, b15⟩ := h15
  (try clear h15)
  simp only at o15 ⊢
  replace W := W.below b15 W.lt
  replace G := G.below b15 G.lt
  replace H := H.make o15 b15
  clear o15 b15
  have w0' := W.c0
  have w1' := W.c1
  have w2' := W.c2
  have w3' := W.c3
  have w4' := W.c4
  have w5' := W.c5
  have w6' := W.c6
  have w7' := W.c7
  have wl' := W.lt
  go_wp2_with fail
  clear w0' w1' w2' w3' w4' w5' w6' w7' wl'
  have hal : Below w15.heap.size w15 (w15.alloc (.cells #[.int .i64 a, .int .i64 q, .int .i64 t, .int .i64 m, .int .i64 r, .int .i64 s, .int .i64 k, .slice p15 d.length c15] 28)) := (Below.refl _ _).alloc (Nat.le_refl _) _
  have X := FrameAt.new (T := 28) (a := a) (q := q) (t := t) (m := m) (r := r) (s := s) (k := k) (v := .slice p15 d.length c15) w15
  replace W := W.below hal W.lt
  replace G := G.below hal G.lt
  replace H := H.still hal
  clear hal
  obtain ⟨bX, hbX⟩ : ∃ b, b = w15.heap.size := ⟨_, rfl⟩
  rw [← hbX] at X ⊢
  clear hbX
  generalize w15.alloc (.cells #[.int .i64 a, .int .i64 q, .int .i64 t, .int .i64 m, .int .i64 r, .int .i64 s, .int .i64 k, .slice p15 d.length c15] 28) = w16 at W G X H ⊢
  refine (eqFrame_yes _ _ _ _ _ _ _ _ _ _ _ _ _ (H.rd 0 rfl rfl) (H.rd 5 rfl rfl) hdl).mono ?_
  rintro e w17 ⟨rfl, b17⟩
  replace W := W.below b17 W.lt
  replace G := G.below b17 G.lt
  replace X := X.below b17 X.lt
  replace H := H.still b17
  clear b17
  have g0 := G.c0
  have g1 := G.c1
  have g2 := G.c2
  have g3 := G.c3
  have g4 := G.c4
  have g5 := G.c5
  have g6 := G.c6
  have g7 := G.c7
  go_wp2_with fail
  clear g0 g1 g2 g3 g4 g5 g6 g7
  refine (heldFrame_yes _ _ _ _ _ _ _ _ _ _ _ _ (H.rd 3 rfl (marks_len _ _)) (by omega) (by omega) (by omega)).mono ?_
  rintro e w18 ⟨rfl, b18⟩
  replace W := W.below b18 W.lt
  replace G := G.below b18 G.lt
  replace X := X.below b18 X.lt
  replace H := H.still b18
  clear b18
  go_wp2_with fail
  go_ret
  exact ⟨rfl, H.below⟩


end Go.Proofs.Ytnblbemkpojjdaa.fnExactFrameFromBody
