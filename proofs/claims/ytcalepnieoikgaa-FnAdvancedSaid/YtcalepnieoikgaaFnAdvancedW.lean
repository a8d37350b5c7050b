/-
  The walk of laws.FnAdvanced: at every input it returns true and writes nothing that was there.
-/
import Derived.Test.YtcalepnieoikgaaRows
import Derived.Test.YtcalepnieoikgaaFourD
import Derived.Test.YtcalepnieoikgaaFourA
import Derived.WalkKit
import Derived.ProofKit
import Derived.OpenShut
import Derived.ShutString
import Derived.ChangeOld
import Derived.Below
namespace Go.Proofs.Ytcalepnieoikgaa.fnAdvanced
open Go.ChangeShapes Go.WideShapes Go.ChangeAt Go.RowKit
open Go.ChangeMaps (open_string shut_string)
set_option linter.unusedVariables false


/-- WHAT THE WALK IS TOLD OF A SLICE OF INTEGERS THAT CAME IN: it is nil; or it leads to a row of 'cap' cells, the numbers 'zs' (the first 'len' are its elements, the rest its spare room), each fitting its kind. -/
def IsRow (k : IntKind) (w : World) (a : Option Addr) (len cap : Nat) (zs : List Int) : Prop :=
  (a = none ∧ len = 0 ∧ cap = 0 ∧ zs = []) ∨
  ∃ x, a = some x ∧ len ≤ cap ∧ cap ≤ maxLen ∧ zs.length = cap ∧ (∀ i, i < zs.length → w.cell? (x.add i) = some (.int k (zs.getD i 0))) ∧ ∀ n ∈ zs, (Lit.int k n).wf = true

/-! ### STEP 1: THE WALK: the Go text returns true, AND WRITES NOTHING THAT WAS THERE: 'Below w.heap.size w w'' (Derived/Below.lean: '.refl', '.alloc', '.drew', '.setCell' at a new block, '.trans'). Open each 'IsRow' by 'rcases' AHEAD of 'go_enter'; part every test ahead of the walk. -/
set_option maxHeartbeats 2000000 in
theorem walk (a0 : Option Addr) (len0 cap0 : Nat) (z0 : List Int) (w : World) (w0 : IsRow .u8 w a0 len0 cap0 z0) :
    Calls Try.prog 3 #[.slice a0 len0 cap0] w fun e w' => e = .returned (.bool true) ∧ Below w.heap.size w w' := by
  have hr := rdB_of_row w0
  clear w0
  generalize List.take len0 z0 = cs at hr
  have HR := Lib.hid hr; clear hr
  by_cases hbig : len0 ≤ 4096
  · go_enter Try.func3, Try.ntmps3
    go_wp2_with fail
    refine (big_no _ _ _ _ hbig).mono ?_
    rintro e w' ⟨rfl, rfl⟩
    go_wp2_with fail
    refine (drawAdvanceState_any _ _ _ cs _ HR.out (by omega)).mono ?_
    rintro e w1 ⟨t, m, r, s, k, d, sl, rd, rfl, b1⟩
    obtain ⟨q0, q1, q2, q3, q4, c1, hF⟩ : ∃ q0 q1 q2 q3 q4 c1, advanced t m r s k d sl rd = (q0, q1, q2, q3, q4, c1) := ⟨_, _, _, _, _, _, rfl⟩
    have HF := Lib.hid hF; clear hF
    have B1 := Lib.hid b1; clear b1
    go_wp2_with fail
    have hal : Below w1.heap.size w1 (w1.alloc (.cells #[.int .i64 t, .int .i64 m, .int .i64 r, .int .i64 s, .int .i64 k] 25)) := (Below.refl _ _).alloc (Nat.le_refl _) _
    have A2 := Lib.hid (StateAt.new (T := 25) (t := t) (m := m) (r := r) (s := s) (k := k) w1)
    have B2 := Lib.hid (B1.out.trans (hal.mono B1.out.size))
    clear hal  B1
    obtain ⟨A, hA⟩ : ∃ b, b = w1.heap.size := ⟨_, rfl⟩
    rw [← hA] at A2 ⊢
    clear hA
    generalize w1.alloc (.cells #[.int .i64 t, .int .i64 m, .int .i64 r, .int .i64 s, .int .i64 k] 25) = w2 at  A2 B2 ⊢
    refine (advanceState_any _ _ _ _ _ _ _ _ _).mono ?_
    rintro e w3 ⟨rfl, b3⟩
    rw [HF.out]
    simp only
    have A3 := Lib.hid (A2.out.below b3 A2.out.lt)
    have B3 := Lib.hid (B2.out.trans (b3.mono B2.out.size))
    clear b3 A2 B2
    have a0 := A3.out.c0
    have a1 := A3.out.c1
    have a2 := A3.out.c2
    have a3 := A3.out.c3
    have a4 := A3.out.c4
    have hlA := A3.out.lt
    go_wp2_with fail
    clear a0 a1 a2 a3 a4
    clear hlA
    have hal : Below w3.heap.size w3 (w3.alloc (.cells #[.int .i64 q0, .int .i64 q1, .int .i64 q2, .int .i64 q3, .int .i64 q4] 25)) := (Below.refl _ _).alloc (Nat.le_refl _) _
    have A4 := Lib.hid (A3.out.below hal A3.out.lt)
    have X4 := Lib.hid (StateAt.new (T := 25) (t := q0) (m := q1) (r := q2) (s := q3) (k := q4) w3)
    have B4 := Lib.hid (B3.out.trans (hal.mono B3.out.size))
    clear hal A3 B3
    obtain ⟨X, hX⟩ : ∃ b, b = w3.heap.size := ⟨_, rfl⟩
    rw [← hX] at X4 ⊢
    clear hX
    generalize w3.alloc (.cells #[.int .i64 q0, .int .i64 q1, .int .i64 q2, .int .i64 q3, .int .i64 q4] 25) = w4 at A4 X4 B4 ⊢
    refine (sAdvanceState_any _ _ _ _ _ _ _ _ _).mono ?_
    rintro e w5 ⟨rfl, b5⟩
    rw [HF.out]
    simp only
    have A5 := Lib.hid (A4.out.below b5 A4.out.lt)
    have X5 := Lib.hid (X4.out.below b5 X4.out.lt)
    have B5 := Lib.hid (B4.out.trans (b5.mono B4.out.size))
    clear b5 A4 X4 B4
    have n1 : (c1 != c1) = false := by simp
    have hne := fun w => state_neq_self q0 q1 q2 q3 q4 w
    have x0 := X5.out.c0
    have x1 := X5.out.c1
    have x2 := X5.out.c2
    have x3 := X5.out.c3
    have x4 := X5.out.c4
    have hlX := X5.out.lt
    by_cases hc : c1 = 0
    · subst hc
      have n0 : ((0 : Int) != 0) = false := by simp
      obtain ⟨x, hx, hx0, hx1, hx2⟩ := advance_time HF.out
      obtain ⟨hv, ⟨hd0, hd1⟩, ⟨hsl0, hsl1⟩, ⟨hrd0, hrd1⟩, hs, hrr, -⟩ := advance_get HF.out
      obtain ⟨⟨ht0, ht1⟩, ⟨hm0, hm1⟩, ⟨hr0, -⟩, ⟨hs0, -⟩, ⟨hk0, hk1⟩⟩ := isState_iff.1 hv
      have HX := Lib.hid hx; clear hx hv
      have a0 := A5.out.c0
      have a1 := A5.out.c1
      have a2 := A5.out.c2
      have a3 := A5.out.c3
      have a4 := A5.out.c4
      have hlA := A5.out.lt
      go_wp2_with fail
      clear a0 a1 a2 a3 a4
      clear x0 x1 x2 x3 x4
      clear hlA hlX hne n1 HF
      have hal : Below w5.heap.size w5 (w5.alloc (.cells #[.int .i64 q0, .int .i64 q1, .int .i64 q2, .int .i64 q3, .int .i64 q4] 25)) := (Below.refl _ _).alloc (Nat.le_refl _) _
      have A6 := Lib.hid (A5.out.below hal A5.out.lt)
      have X6 := Lib.hid (X5.out.below hal X5.out.lt)
      have Y6 := Lib.hid (StateAt.new (T := 25) (t := q0) (m := q1) (r := q2) (s := q3) (k := q4) w5)
      have B6 := Lib.hid (B5.out.trans (hal.mono B5.out.size))
      clear hal A5 X5 B5
      obtain ⟨Y, hY⟩ : ∃ b, b = w5.heap.size := ⟨_, rfl⟩
      rw [← hY] at Y6 ⊢
      clear hY
      generalize w5.alloc (.cells #[.int .i64 q0, .int .i64 q1, .int .i64 q2, .int .i64 q3, .int .i64 q4] 25) = w6 at A6 X6 Y6 B6 ⊢
      refine (timeBetween_any _ _ _ _ _ _ _ _ _ _ _).mono ?_
      rintro e w7 ⟨rfl, b7⟩
      rw [HX.out]
      simp only
      have A7 := Lib.hid (A6.out.below b7 A6.out.lt)
      have B7 := Lib.hid (B6.out.trans (b7.mono B6.out.size))
      clear b7 A6 B6
      clear X6 Y6 HX
      have a0 := A7.out.c0
      have a1 := A7.out.c1
      have a2 := A7.out.c2
      have a3 := A7.out.c3
      have a4 := A7.out.c4
      have hlA := A7.out.lt
      go_wp2_with fail
      clear a0 a1 a2 a3 a4
      clear hlA
      have hlA7 := A7.out.lt
      have hB7 := B7.out.size
      have hal : Below w7.heap.size w7 (w7.alloc (.cells #[.int .i64 t, .int .i64 m, .int .i64 r, .int .i64 s, .int .i64 k] 25)) := (Below.refl _ _).alloc (Nat.le_refl _) _
      have A8 := Lib.hid (A7.out.below hal A7.out.lt)
      have N8 := Lib.hid (StateAt.new (T := 25) (t := t) (m := m) (r := r) (s := s) (k := k) w7)
      have B8 := Lib.hid (B7.out.trans (hal.mono B7.out.size))
      clear hal A7 B7
      have hAN : A < w7.heap.size := hlA7
      have hWN : w.heap.size ≤ w7.heap.size := hB7
      obtain ⟨N, hN⟩ : ∃ b, b = w7.heap.size := ⟨_, rfl⟩
      rw [← hN] at hAN hWN
      have hNA : A ≠ N := by omega
      have hwN : w.heap.size ≤ N := hWN
      rw [← hN] at N8 ⊢
      clear hN
      generalize w7.alloc (.cells #[.int .i64 t, .int .i64 m, .int .i64 r, .int .i64 s, .int .i64 k] 25) = w8 at A8 N8 B8 ⊢
      go_loopw [14] (fun i wr => ∃ (j : Nat) (R S tk : Int), (j : Int) ≤ sl ∧ i = .int .i64 j ∧ Hid (stepsRS sl rd j r s = (R, S)) ∧ 0 ≤ tk ∧ tk ≤ 65535 ∧ StateAt 25 wr N tk m R S k ∧ StateAt 25 wr A t m r s k ∧ Below w.heap.size w wr) (fun i _ => (sl - intOf i).toNat)
      case atStart => exact ⟨0, r, s, t, by omega, rfl, rfl, ht0, ht1, N8.out, A8.out, B8.out⟩
      case round =>
        clear N8 A8 B8
        obtain ⟨j, R, S, tk, hj, rfl, HS, hk2, hk3, hN, hA, hB⟩ := hrel
        have hb := steps_bound HS.out ⟨hs0, hs⟩ ⟨hr0, hrr⟩
        by_cases hlt : (j : Int) < sl
        · have hadv := advance_one ⟨hk2, hk3⟩ ⟨hm0, hm1⟩ ⟨hk0, hk1⟩ ⟨hd0, hd1⟩ ⟨hsl0, hsl1⟩ ⟨hrd0, hrd1⟩ hb.1 hb.2
          have hnext := steps_next HS.out
          obtain ⟨⟨R', S'⟩, hRS⟩ : ∃ q, stepRS sl rd R S = q := ⟨_, rfl⟩
          rw [hRS] at hadv hnext
          obtain ⟨tk', htk⟩ : ∃ u, (tk + d) % 65536 = u := ⟨_, rfl⟩
          rw [htk] at hadv
          have ht2 : 0 ≤ tk' := by omega
          have ht3 : tk' ≤ 65535 := by omega
          have HADV := Lib.hid hadv; have HNEXT := Lib.hid hnext; have HAO := Lib.hid hA; have HNO := Lib.hid hN; have HBO := Lib.hid hB
          clear hadv hnext hRS htk hb
          have c0 := hN.c0
          have c1 := hN.c1
          have c2 := hN.c2
          have c3 := hN.c3
          have c4 := hN.c4
          clear hA hN hB
          go_wp2_with fail
          clear c0 c1 c2 c3 c4
          refine (advanceState_any _ _ _ _ _ _ _ _ _).mono ?_
          rintro e wr2 ⟨rfl, b⟩
          rw [HADV.out]
          simp only
          have hal := b.alloc b.size (.cells #[.int .i64 tk', .int .i64 m, .int .i64 R', .int .i64 S', .int .i64 k] 25)
          have A2 := Lib.hid (HAO.out.below hal HAO.out.lt)
          have N2 := Lib.hid (HNO.out.below hal HNO.out.lt)
          have B2 := Lib.hid (HBO.out.trans (hal.mono HBO.out.size))
          have P2 := Lib.hid (StateAt.new (T := 25) (t := tk') (m := m) (r := R') (s := S') (k := k) wr2)
          clear hal b HAO HNO HBO HADV
          go_upto_region 18 with fail
          obtain ⟨P, hP⟩ : ∃ b, b = wr2.heap.size := ⟨_, rfl⟩
          rw [← hP] at P2 ⊢
          clear hP
          generalize wr2.alloc (.cells #[.int .i64 tk', .int .i64 m, .int .i64 R', .int .i64 S', .int .i64 k] 25) = wr3 at A2 N2 B2 P2 ⊢
          have c0 := P2.out.c0
          have c1 := P2.out.c1
          have c2 := P2.out.c2
          have c3 := P2.out.c3
          have c4 := P2.out.c4
          have n0 := N2.out.c0
          have n1 := N2.out.c1
          have n2 := N2.out.c2
          have n3 := N2.out.c3
          have n4 := N2.out.c4
          have fn0 := N2.out.f 0
          have fn1 := N2.out.f 1
          have fn2 := N2.out.f 2
          have fn3 := N2.out.f 3
          have fn4 := N2.out.f 4
          go_wp2
          clear c0 c1 c2 c3 c4
          clear n0 n1 n2 n3 n4 fn0 fn1 fn2 fn3 fn4
          go_roundw
          case rel => exact ⟨j + 1, R', S', tk', by omega, by go_num, HNEXT.out, ht2, ht3, StateAt.five N2.out tk' m R' S' k, StateAt.far5 A2.out hNA tk' m R' S' k, B2.out.trans (below_five hwN tk' m R' S' k)⟩
          case measure => simp [intOf]; omega
        · have hjs : sl.toNat = j := by omega
          have hjs2 : (j : Int) = sl := by omega
          have HE := HS.out
          rw [← hjs] at HE
          obtain ⟨rfl, rfl⟩ := steps_end HE ⟨hs0, hs⟩
          have a2 := hA.c2
          have a3 := hA.c3
          have a4 := hA.c4
          have n2 := hN.c2
          have n3 := hN.c3
          have n4 := hN.c4
          have HBO := Lib.hid hB
          clear hA hN hB HE HS hb hjs
          go_wp2_with fail
          trace_state
          go_quiet (fail)
          go_wp2_with fail
          go_ret
          exact ⟨rfl, below_drewN' HBO.out _⟩
    · have hc2 : (c1 != 0) = true := by simp [hc]
      clear hc
      have hal : Below w5.heap.size w5 (w5.alloc (.cells #[.int .i64 q0, .int .i64 q1, .int .i64 q2, .int .i64 q3, .int .i64 q4] 25)) := (Below.refl _ _).alloc (Nat.le_refl _) _
      have B6 := B5.out.trans (hal.mono B5.out.size)
      clear hal
      go_wp2_with fail
      go_ret
      exact ⟨rfl, B6⟩
  · go_enter Try.func3, Try.ntmps3
    go_wp2_with fail
    refine (big_yes _ _ _ _ hbig).mono ?_
    rintro e w' ⟨rfl, rfl⟩
    go_wp2
    go_ret
    exact ⟨rfl, Below.refl _ _⟩


end Go.Proofs.Ytcalepnieoikgaa.fnAdvanced
