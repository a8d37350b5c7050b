/-
  The walk of laws.FnLeastMissed: at every input it returns true and writes nothing that was there.
-/
import Derived.Test.YtfmbefmiglpijaaRows
import Derived.Test.YtfmbefmiglpijaaC3o
import Derived.WalkKit
import Derived.ProofKit
import Derived.OpenShut
import Derived.ShutString
import Derived.ChangeOld
import Derived.Below
namespace Go.Proofs.Ytfmbefmiglpijaa.fnLeastMissed
open Go.ChangeShapes Go.WideShapes Go.ChangeAt Go.RowKit
open Go.ChangeMaps (open_string shut_string)
set_option linter.unusedVariables false


/-- WHAT THE WALK IS TOLD OF A SLICE OF INTEGERS THAT CAME IN: it is nil; or it leads to a row of 'cap' cells, the numbers 'zs' (the first 'len' are its elements, the rest its spare room), each fitting its kind. -/
def IsRow (k : IntKind) (w : World) (a : Option Addr) (len cap : Nat) (zs : List Int) : Prop :=
  (a = none ∧ len = 0 ∧ cap = 0 ∧ zs = []) ∨
  ∃ x, a = some x ∧ len ≤ cap ∧ cap ≤ maxLen ∧ zs.length = cap ∧ (∀ i, i < zs.length → w.cell? (x.add i) = some (.int k (zs.getD i 0))) ∧ ∀ n ∈ zs, (Lit.int k n).wf = true

/-! ### STEP 1: THE WALK: the Go text returns true, AND WRITES NOTHING THAT WAS THERE: 'Below w.heap.size w w'' (Derived/Below.lean: '.refl', '.alloc', '.drew', '.setCell' at a new block, '.trans'). Open each 'IsRow' by 'rcases' AHEAD of 'go_enter'; part every test ahead of the walk. -/
set_option maxHeartbeats 1000000 in
theorem walk (a0 : Option Addr) (len0 cap0 : Nat) (z0 : List Int) (w : World) (w0 : IsRow .u8 w a0 len0 cap0 z0) :
    Calls Try.prog 4 #[.slice a0 len0 cap0] w fun e w' => e = .returned (.bool true) ∧ Below w.heap.size w w' := by
  have hr := rdB_of_row w0
  clear w0
  generalize List.take len0 z0 = cs at hr
  have HR := Lib.hid hr; clear hr
  by_cases hbig : len0 ≤ 4096
  · go_enter Try.func4, Try.ntmps4
    go_wp2_with fail
    refine (big_no _ _ _ _ hbig).mono ?_
    rintro e w' ⟨rfl, rfl⟩
    go_wp2_with fail
    refine (drawFirstMissed_any _ _ _ cs _ HR.out (by omega)).mono ?_
    rintro e w1 ⟨wd, pl, sp, rfl, b1⟩
    have H : HeldC 2 25 w (w1.alloc (.cells #[.int .i64 wd, .int .i64 pl] 25)) w1.heap.size wd pl [] := HeldC.first b1
    obtain ⟨C, hC⟩ : ∃ C, C = w1.heap.size := ⟨_, rfl⟩
    clear b1
    obtain ⟨r0, r1, hF⟩ : ∃ r0 r1, firstOf wd pl sp = (r0, r1) := ⟨_, _, rfl⟩
    obtain ⟨q0, q1, hG⟩ : ∃ q0 q1, leastOf wd pl sp = (q0, q1) := ⟨_, _, rfl⟩
    have hrl : r0.length ≤ 3 := by have h := firstOf_len wd pl sp; rw [hF] at h; exact h
    have HF := Lib.hid hF; clear hF
    have HG := Lib.hid hG; clear hG
    go_upto_region 4 with fail
    generalize w1.alloc (.cells #[.int .i64 wd, .int .i64 pl] 25) = w2 at H ⊢
    rw [← hC] at H ⊢
    clear hC
    have hc0 := H.st.c0
    have hc1 := H.st.c1
    go_wp2_with fail
    clear hc0 hc1
    refine (firstMissed_any _ _ _ _).mono ?_
    rintro e w3 m3
    rw [HF.out] at m3
    change Makes2 2 _ r0 r1 _ _ at m3
    obtain ⟨p3, c3, rfl, o3, -, b3⟩ := m3.get
    replace H := H.make o3 b3
    clear o3 b3 m3
    have hc0 := H.st.c0
    have hc1 := H.st.c1
    go_wp2_with fail
    clear hc0 hc1
    refine (sFirstMissed_any _ _ _ _).mono ?_
    rintro e w4 m4
    rw [HF.out] at m4
    change Makes2 2 _ r0 r1 _ _ at m4
    obtain ⟨p4, c4, rfl, o4, -, b4⟩ := m4.get
    replace H := H.make o4 b4
    clear o4 b4 m4
    have hc0 := H.st.c0
    have hc1 := H.st.c1
    go_wp2_with fail
    clear hc0 hc1
    refine (leastWeight_any _ _ _ _).mono ?_
    rintro e w5 ⟨rfl, b5⟩
    rw [HG.out]
    replace H := H.still b5
    clear b5
    have hc0 := H.st.c0
    have hc1 := H.st.c1
    go_wp2_with fail
    clear hc0 hc1
    refine (sLeastWeight_any _ _ _ _).mono ?_
    rintro e w6 ⟨rfl, b6⟩
    rw [HG.out]
    replace H := H.still b6
    clear b6
    have t1 : (r1 != r1) = false := by simp
    have t2 : (q0 != q0) = false := by simp
    have t3 : (q1 != q1) = false := by simp
    go_wp2_with fail
    refine (like_yes _ _ _ _ _ _ _ _ (H.rd 1 rfl rfl) (H.rd 0 rfl rfl) (by omega)).mono ?_
    rintro e w7 ⟨rfl, b7⟩
    replace H := H.still b7
    clear b7
    by_cases hr1 : r1 = 0
    · subst hr1
      obtain ⟨W, g, n, es, rfl, rfl, rfl, hn1, hn2, rfl, hfb, hesl, hmi, hls⟩ := least_round HF.out HG.out
      have HFB := Lib.hid hfb; clear hfb
      have HMI := Lib.hid hmi; clear hmi
      have HLS := Lib.hid hls; clear hls
      have hw7 := H.below.size
      clear t1 t3
      go_wp2_with (at_make; refine make_cap _ rfl _ _ rfl w7.heap.size Try.underlying26 info64 _ _ _ _ n n rfl rfl rfl rfl (Nat.le_refl _) (by omega) (Nat.le_refl _) ?_; intro w8 o8 b8)
      replace H := H.make o8 b8
      clear b8
      refine (flipBits_at _ _ _ _ _ _ (List.replicate n 0) r0 _ (own_rd o8) (H.rd 2 rfl rfl) (by omega) (by omega)).mono ?_
      rintro e w9 m9
      rw [HFB.out] at m9
      change Makes2 2 _ es 0 _ _ at m9
      obtain ⟨p9, c9, rfl, o9, -, b9⟩ := m9.get
      replace H := H.make o9 b9
      clear o8 o9 b9 m9
      have hc0 := H.st.c0
      have hc1 := H.st.c1
      go_wp2_with fail
      clear hc0 hc1
      refine (isMissed_any _ _ _ _ _ es _ (H.rd 0 rfl rfl) (by omega)).mono ?_
      rintro e w10 ⟨rfl, b10⟩
      rw [HMI.out]
      replace H := H.still b10
      clear b10
      by_cases hn3 : 1 < n
      · obtain ⟨q, hq1, hq2⟩ := HLS.out hn3
        have HQ := Lib.hid hq1; clear hq1
        obtain ⟨m, hm⟩ : ∃ m, m = n - 1 := ⟨_, rfl⟩
        have hmI : (n : Int) - 1 = (m : Int) := by omega
        have hnI : ¬ (n : Int) < 2 := by omega
        rw [← hm] at HQ
        clear hm hn3
        have hc0 := H.st.c0
        have hc1 := H.st.c1
        go_wp2_with fail
        clear hc0 hc1
        refine (leastWeight_any _ _ _ _).mono ?_
        rintro e w11 ⟨rfl, b11⟩
        rw [HQ.out]
        replace H := H.still b11
        clear b11
        go_wp2
        go_ret
        exact ⟨rfl, H.below⟩
      · have hnI : (n : Int) < 2 := by omega
        clear hn3
        go_wp2
        go_ret
        exact ⟨rfl, H.below⟩
    · have t4 : (r1 != 0) = true := by simp [hr1]
      by_cases hr4 : r1 = 4
      · subst hr4
        have hl4 := least_four HF.out
        rw [HG.out] at hl4
        simp only [Prod.mk.injEq] at hl4
        obtain ⟨rfl, rfl⟩ := hl4
        clear hr1
        go_wp2
        go_ret
        exact ⟨rfl, H.below⟩
      · have t5 : (r1 != 4) = true := by simp [hr4]
        clear hr4 hr1
        go_wp2
        go_ret
        exact ⟨rfl, H.below⟩
  · go_enter Try.func4, Try.ntmps4
    go_wp2_with fail
    refine (big_yes _ _ _ _ hbig).mono ?_
    rintro e w' ⟨rfl, rfl⟩
    go_wp2
    go_ret
    exact ⟨rfl, Below.refl _ _⟩


end Go.Proofs.Ytfmbefmiglpijaa.fnLeastMissed
