/-
  The walk of laws.FnKinds: at every input it returns true and writes nothing that was there.
-/
import Derived.Test.YtdcalkobcdeclaaRows
import Derived.Test.YtdcalkobcdeclaaH9
import Derived.Test.YtdcalkobcdeclaaBase
import Derived.Test.YtdcalkobcdeclaaDrawA
import Derived.WalkKit
import Derived.ProofKit
import Derived.OpenShut
import Derived.ShutString
import Derived.ChangeOld
import Derived.Below
namespace Go.Proofs.Ytdcalkobcdeclaa.fnKinds
open Go.ChangeShapes Go.WideShapes Go.ChangeAt Go.RowKit
open Go.ChangeMaps (open_string shut_string)
set_option linter.unusedVariables false


/-- WHAT THE WALK IS TOLD OF A SLICE OF INTEGERS THAT CAME IN: it is nil; or it leads to a row of 'cap' cells, the numbers 'zs' (the first 'len' are its elements, the rest its spare room), each fitting its kind. -/
def IsRow (k : IntKind) (w : World) (a : Option Addr) (len cap : Nat) (zs : List Int) : Prop :=
  (a = none ∧ len = 0 ∧ cap = 0 ∧ zs = []) ∨
  ∃ x, a = some x ∧ len ≤ cap ∧ cap ≤ maxLen ∧ zs.length = cap ∧ (∀ i, i < zs.length → w.cell? (x.add i) = some (.int k (zs.getD i 0))) ∧ ∀ n ∈ zs, (Lit.int k n).wf = true

/-! ### STEP 1: THE WALK: the Go text returns true, AND WRITES NOTHING THAT WAS THERE: 'Below w.heap.size w w'' (Derived/Below.lean: '.refl', '.alloc', '.drew', '.setCell' at a new block, '.trans'). Open each 'IsRow' by 'rcases' AHEAD of 'go_enter'; part every test ahead of the walk. -/
set_option linter.unusedVariables false in set_option maxHeartbeats 2000000 in set_option maxRecDepth 100000 in
theorem walk (a0 : Option Addr) (len0 cap0 : Nat) (z0 : List Int) (w : World) (w0 : IsRow .u8 w a0 len0 cap0 z0) :
    Calls Try.prog 3 #[.slice a0 len0 cap0] w fun e w' => e = .returned (.bool true) ∧ Below w.heap.size w w' := by
  have hr := rdB_of_row w0
  clear w0
  generalize List.take len0 z0 = cs at hr
  have HR := Lib.hid hr; clear hr
  by_cases hbig : len0 ≤ 4096
  rotate_left
  · go_enter Try.func3, Try.ntmps3
    go_wp2_with fail
    refine (big_yes _ _ _ _ hbig).mono ?_
    rintro e w' ⟨rfl, rfl⟩
    go_wp2
    go_ret
    exact ⟨rfl, Below.refl _ _⟩
  go_enter Try.func3, Try.ntmps3
  go_wp2_with fail
  refine (big_no _ _ _ _ hbig).mono ?_
  rintro e w' ⟨rfl, rfl⟩
  go_wp2_with fail
  refine (drawBodySize_any _ _ _ cs _ HR.out (by omega)).mono ?_
  rintro e w1 ⟨a, n, rfl, b1⟩
  have B1 := Lib.hid b1
  clear b1
  obtain ⟨z, c, hz⟩ : ∃ z c, bodySize a n = (z, c) := ⟨_, _, rfl⟩
  obtain ⟨x, e1, hx⟩ : ∃ x e1, sealSize a n = (x, e1) := ⟨_, _, rfl⟩
  obtain ⟨hs, hhs⟩ : ∃ b, hasState a = b := ⟨_, rfl⟩
  obtain ⟨hd, hhd⟩ : ∃ b, hasData a = b := ⟨_, rfl⟩
  obtain ⟨nm, hnm⟩ : ∃ s, kindName a = s := ⟨_, rfl⟩
  have HZ := Lib.hid hz; have HX := Lib.hid hx; have HS := Lib.hid hhs; have HD := Lib.hid hhd; have HN := Lib.hid hnm
  clear hz hx hhs hhd hnm
  go_wp2_with fail
  refine (bodySize_any _ _ _).mono ?_
  rintro e w2 ⟨rfl, b2⟩
  rw [HZ.out]
  simp only
  have B2 := Lib.hid (below_two B1.out b2); clear b2 B1
  go_wp2_with fail
  refine (sBodySize_b _ _ _).mono ?_
  rintro e w3 ⟨rfl, b3⟩
  rw [HZ.out]
  simp only
  have B3 := Lib.hid (below_two B2.out b3); clear b3 B2
  go_wp2_with fail
  refine (hasStateAndData_any _ _).mono ?_
  rintro e w4 ⟨rfl, rfl⟩
  rw [HS.out, HD.out]
  go_wp2_with fail
  refine (sHasStateAndData_any _ _).mono ?_
  rintro e w4 ⟨rfl, rfl⟩
  rw [HS.out, HD.out]
  go_wp2_with fail
  refine (sealSize_any _ _ _).mono ?_
  rintro e w5 ⟨rfl, b5⟩
  rw [HX.out]
  simp only
  have B5 := Lib.hid (below_two B3.out b5); clear b5 B3
  go_wp2_with fail
  refine (sSealSize_any _ _ _).mono ?_
  rintro e w6 ⟨rfl, b6⟩
  rw [HX.out]
  simp only
  have B6 := Lib.hid (below_two B5.out b6); clear b6 B5
  go_wp2_with fail
  refine (drawKindOfHead_any _ _ _ cs _ (rdB_grow HR.out B6.out) (by omega)).mono ?_
  rintro e w7 ⟨hh, rfl, b7⟩
  have B7 := Lib.hid (below_two B6.out b7); clear b7 B6
  obtain ⟨kk, e3, hk⟩ : ∃ kk e3, kindOfHead hh = (kk, e3) := ⟨_, _, rfl⟩
  have HK := Lib.hid hk; clear hk
  go_wp2_with fail
  refine (kindOfHead_any _ _).mono ?_
  rintro e w8 ⟨rfl, rfl⟩
  rw [HK.out]
  simp only
  go_wp2_with fail
  refine (sKindOfHead_any _ _).mono ?_
  rintro e w8 ⟨rfl, rfl⟩
  rw [HK.out]
  simp only
  have t0 : (c != c) = false := by simp
  have t1 : (z != z) = false := by simp
  have t2 : (hs != hs) = false := by simp
  have t3 : (hd != hd) = false := by simp
  have t4 : (e1 != e1) = false := by simp
  have t5 : (x != x) = false := by simp
  have t6 : (e3 != e3) = false := by simp
  have t7 : (kk != kk) = false := by simp
  go_wp2_with fail
  refine (kindName_any _ _).mono ?_
  rintro e w9 ⟨rfl, b9⟩
  rw [HN.out]
  have B9 := Lib.hid (below_two B7.out b9); clear b9 B7
  go_wp2_with fail
  refine (sKindName_any _ _).mono ?_
  rintro e wa ⟨rfl, ba⟩
  rw [HN.out]
  have BA := Lib.hid (below_two B9.out ba); clear ba B9
  by_cases hc : c = 0
  rotate_left
  · have tc : (c != 0) = true := by simp [hc]
    clear hc
    go_wp2
    go_ret
    exact ⟨rfl, BA.out⟩
  subst hc
  obtain ⟨h1, h9, h0, hxx⟩ := kinds_facts HZ.out
  rw [HX.out] at hxx
  simp only [Prod.mk.injEq] at hxx
  obtain ⟨rfl, rfl⟩ := hxx
  have hin := bodySize_in HZ.out
  have hw : IntKind.i64.wrap (z + 3) = z + 3 := by rw [IntKind.wrap_i64]; omega
  have tx : (z + 3 == z + 3) = true := by simp
  rw [HS.out] at h9
  rw [HD.out] at h0
  cases hs <;> cases hd
  · have h0 := h0 rfl
    subst h0
    go_wp2
    go_ret
    exact ⟨rfl, BA.out⟩
  · go_wp2
    go_ret
    exact ⟨rfl, BA.out⟩
  · have h0 := h0 rfl
    subst h0
    have h9 := h9 rfl
    go_wp2
    go_ret
    exact ⟨rfl, BA.out⟩
  · have h9 := h9 rfl
    go_wp2
    go_ret
    exact ⟨rfl, BA.out⟩


end Go.Proofs.Ytdcalkobcdeclaa.fnKinds
