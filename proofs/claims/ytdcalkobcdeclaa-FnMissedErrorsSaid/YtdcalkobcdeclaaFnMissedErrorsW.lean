/-
  The walk of laws.FnMissedErrors: at every input it returns true and writes nothing that was there.
-/
import Derived.Test.YtdcalkobcdeclaaRows
import Derived.Test.YtdcalkobcdeclaaHF
import Derived.Test.YtdcalkobcdeclaaHG
import Derived.Test.YtdcalkobcdeclaaHI
import Derived.Test.YtdcalkobcdeclaaThrD
import Derived.WalkKit
import Derived.ProofKit
import Derived.OpenShut
import Derived.ShutString
import Derived.ChangeOld
import Derived.Below
namespace Go.Proofs.Ytdcalkobcdeclaa.fnMissedErrors
open Go.ChangeShapes Go.WideShapes Go.ChangeAt Go.RowKit
open Go.ChangeMaps (open_string shut_string)
set_option linter.unusedVariables false


/-- WHAT THE WALK IS TOLD OF A SLICE OF INTEGERS THAT CAME IN: it is nil; or it leads to a row of 'cap' cells, the numbers 'zs' (the first 'len' are its elements, the rest its spare room), each fitting its kind. -/
def IsRow (k : IntKind) (w : World) (a : Option Addr) (len cap : Nat) (zs : List Int) : Prop :=
  (a = none ∧ len = 0 ∧ cap = 0 ∧ zs = []) ∨
  ∃ x, a = some x ∧ len ≤ cap ∧ cap ≤ maxLen ∧ zs.length = cap ∧ (∀ i, i < zs.length → w.cell? (x.add i) = some (.int k (zs.getD i 0))) ∧ ∀ n ∈ zs, (Lit.int k n).wf = true

/-! ### STEP 1: THE WALK: the Go text returns true, AND WRITES NOTHING THAT WAS THERE: 'Below w.heap.size w w'' (Derived/Below.lean: '.refl', '.alloc', '.drew', '.setCell' at a new block, '.trans'). Open each 'IsRow' by 'rcases' AHEAD of 'go_enter'; part every test ahead of the walk. -/
set_option linter.unusedVariables false in set_option maxHeartbeats 4000000 in set_option maxRecDepth 100000 in
theorem walk (a0 : Option Addr) (len0 cap0 : Nat) (z0 : List Int) (w : World) (w0 : IsRow .u8 w a0 len0 cap0 z0) :
    Calls Try.prog 6 #[.slice a0 len0 cap0] w fun e w' => e = .returned (.bool true) ∧ Below w.heap.size w w' := by
  have hr := rdB_of_row w0
  clear w0
  generalize List.take len0 z0 = cs at hr
  have HR := Lib.hid hr; clear hr
  by_cases hbig : len0 ≤ 4096
  rotate_left
  · go_enter Try.func6, Try.ntmps6
    go_wp2_with fail
    refine (big_yes _ _ _ _ hbig).mono ?_
    rintro e w' ⟨rfl, rfl⟩
    go_wp2
    go_ret
    exact ⟨rfl, Below.refl _ _⟩
  go_enter Try.func6, Try.ntmps6
  go_wp2_with fail
  refine (big_no _ _ _ _ hbig).mono ?_
  rintro e w' ⟨rfl, rfl⟩
  go_wp2_with fail
  refine (drawMissedErrors_any _ _ _ cs _ HR.out (by omega)).mono ?_
  rintro e w1 ⟨kind, a0, a1, a2, a3, a4, b0, b1, b2, b3, b4, ao, cap, es, rfl, hes, hln, bb⟩
  have B0 := Lib.hid bb; clear bb
  have HE := Lib.hid hes; clear hes
  obtain ⟨mi, er, hM⟩ : ∃ mi er, missed kind a0 a1 a2 a3 a4 b0 b1 b2 b3 b4 es = (mi, er) := ⟨_, _, rfl⟩
  have HM := Lib.hid hM; clear hM
  go_upto_region 4 with fail
  have T0 := Lib.hid (TwoS.start (t := a0) (m := a1) (r := a2) (s := a3) (k := a4) (t' := b0) (m' := b1) (r' := b2) (s' := b3) (k' := b4) w1)
  generalize (w1.alloc (.cells #[.int .i64 a0, .int .i64 a1, .int .i64 a2, .int .i64 a3, .int .i64 a4] 33)).alloc (.cells #[.int .i64 b0, .int .i64 b1, .int .i64 b2, .int .i64 b3, .int .i64 b4] 33) = w2 at T0 ⊢
  obtain ⟨⟨c0, c1, c2, c3, c4⟩, ⟨d0, d1, d2, d3, d4⟩⟩ := T0.out.cells
  go_wp2_with fail
  clear c0 c1 c2 c3 c4 d0 d1 d2 d3 d4
  refine (missedErrors_any _ _ _ _ _ _ _ _ _ _ _ _ _ es _ (HE.out.below T0.out.below) (by omega)).mono ?_
  rintro e w3 ⟨rfl, bb⟩
  have T1 := Lib.hid (T0.out.call bb)
  clear bb T0
  rw [HM.out]
  simp only
  obtain ⟨⟨c0, c1, c2, c3, c4⟩, ⟨d0, d1, d2, d3, d4⟩⟩ := T1.out.cells
  go_wp2_with fail
  clear c0 c1 c2 c3 c4 d0 d1 d2 d3 d4
  refine (sMissedErrors_any _ _ _ _ _ _ _ _ _ _ _ _ _ es _ (HE.out.below T1.out.below) (by omega)).mono ?_
  rintro e w4 ⟨rfl, bb⟩
  have T2 := Lib.hid (T1.out.call bb)
  clear bb T1
  rw [HM.out]
  simp only
  have n1 : (er != er) = false := by simp
  have n2 : (mi != mi) = false := by simp
  by_cases hc : er = 0
  rotate_left
  · have hc2 : (er != 0) = true := by simp [hc]
    clear hc
    go_wp2_with fail
    go_ret
    exact ⟨rfl, below_two B0.out T2.out.below⟩
  subst hc
  have n0 : ((0 : Int) != 0) = false := by simp
  obtain ⟨ha, hb, hbe, ⟨hw0, hw1⟩, hlaw⟩ := missed_law HM.out hln
  have hD := bitDist_le a0 a1 a2 a3 a4 b0 b1 b2 b3 b4
  have hdi := di_0 ha hb
  obtain ⟨D, hDD⟩ : ∃ D, D = bitDist a0 a1 a2 a3 a4 b0 b1 b2 b3 b4 := ⟨_, rfl⟩
  rw [← hDD] at hD hdi hlaw
  have HDI := Lib.hid hdi
  have HBE := Lib.hid hbe
  clear ha hb hdi hDD hbe
  obtain ⟨W, hW⟩ : ∃ W, W = weight es := ⟨_, rfl⟩
  rw [← hW] at hw0 hw1 hlaw
  have HW := Lib.hid hW; clear hW
  go_wp2_with fail
  clear n1 n2 n0
  refine (sum_any _ _ _ es _ (HE.out.below T2.out.below) (by omega) HBE.out).mono ?_
  rintro e w5 ⟨rfl, rfl⟩
  rw [← HW.out]
  obtain ⟨⟨c0, c1, c2, c3, c4⟩, ⟨d0, d1, d2, d3, d4⟩⟩ := T2.out.cells
  go_wp2_with fail
  clear c0 c1 c2 c3 c4 d0 d1 d2 d3 d4
  refine (stateDistance_any _ _ _ _ _ _ _ _ _ _ _).mono ?_
  rintro e w6 ⟨rfl, bb⟩
  rw [HDI.out]
  simp only
  have hfin := Lib.hid (below_two B0.out (T2.out.call bb).below)
  clear bb T2 HDI HBE HE HM HW HR
  by_cases h0 : kind = 0
  · rw [if_pos h0] at hlaw
    subst h0
    obtain ⟨TT, hTT⟩ : ∃ TT, TT = W + (D : Int) := ⟨_, rfl⟩
    have hadd : IntKind.i64.wrap (W + (D : Int)) = TT := by rw [IntKind.wrap_i64]; omega
    obtain ⟨hl0, hl3⟩ := hlaw TT hTT
    have hpos : 0 ≤ TT := by omega
    clear hlaw hTT hw0 hw1 hD
    rcases (show TT = 0 ∨ (0 < TT ∧ TT ≤ 3) ∨ 3 < TT from by omega) with hz | ⟨h1, h3⟩ | h3
    · obtain rfl := hl0 hz
      subst hz
      clear hl0 hl3 hpos
      go_wp2_with fail
      go_ret
      exact ⟨rfl, hfin.out⟩
    · obtain rfl := hl3 h1 h3
      have q1 : (TT == 0) = false := by simp; omega
      have q2 : (TT != 0) = true := by simp; omega
      have q3 : decide (3 < TT) = false := by simp; omega
      clear hl0 hl3 hpos h1 h3
      go_wp2_with fail
      go_ret
      exact ⟨rfl, hfin.out⟩
    · have q1 : (TT == 0) = false := by simp; omega
      have q2 : (TT != 0) = true := by simp; omega
      have q3 : decide (3 < TT) = true := by simp; omega
      clear hl0 hl3 hpos
      go_wp2_with fail
      go_ret
      exact ⟨rfl, hfin.out⟩
  · rw [if_neg h0] at hlaw
    have t0 : (kind == 0) = false := by simp [h0]
    obtain ⟨hl0, hl3⟩ := hlaw W rfl
    clear h0 hlaw hw1 hD
    obtain ⟨TT, hTT⟩ : ∃ TT, TT = W := ⟨_, rfl⟩
    rw [← hTT] at hl0 hl3 hw0 ⊢
    have hpos := hw0
    clear hTT hw0
    rcases (show TT = 0 ∨ (0 < TT ∧ TT ≤ 3) ∨ 3 < TT from by omega) with hz | ⟨h1, h3⟩ | h3
    · obtain rfl := hl0 hz
      subst hz
      clear hl0 hl3 hpos
      go_wp2_with fail
      go_ret
      exact ⟨rfl, hfin.out⟩
    · obtain rfl := hl3 h1 h3
      have q1 : (TT == 0) = false := by simp; omega
      have q2 : (TT != 0) = true := by simp; omega
      have q3 : decide (3 < TT) = false := by simp; omega
      clear hl0 hl3 hpos h1 h3
      go_wp2_with fail
      go_ret
      exact ⟨rfl, hfin.out⟩
    · have q1 : (TT == 0) = false := by simp; omega
      have q2 : (TT != 0) = true := by simp; omega
      have q3 : decide (3 < TT) = true := by simp; omega
      clear hl0 hl3 hpos
      go_wp2_with fail
      go_ret
      exact ⟨rfl, hfin.out⟩


end Go.Proofs.Ytdcalkobcdeclaa.fnMissedErrors
