/-
  The walk of laws.FnPadded: at every input it returns true and writes nothing that was there.
-/
import Derived.Test.YtilkopbfbmibgaaRows
import Derived.Test.YtilkopbfbmibgaaLiF
import Derived.WalkKit
import Derived.ProofKit
import Derived.OpenShut
import Derived.ShutString
import Derived.ChangeOld
import Derived.Below
namespace Go.Proofs.Ytilkopbfbmibgaa.fnPadded
open Go.ChangeShapes Go.WideShapes Go.ChangeAt Go.RowKit
open Go.ChangeMaps (open_string shut_string)
set_option linter.unusedVariables false


/-- WHAT THE WALK IS TOLD OF A SLICE OF INTEGERS THAT CAME IN: it is nil; or it leads to a row of 'cap' cells, the numbers 'zs' (the first 'len' are its elements, the rest its spare room), each fitting its kind. -/
def IsRow (k : IntKind) (w : World) (a : Option Addr) (len cap : Nat) (zs : List Int) : Prop :=
  (a = none ∧ len = 0 ∧ cap = 0 ∧ zs = []) ∨
  ∃ x, a = some x ∧ len ≤ cap ∧ cap ≤ maxLen ∧ zs.length = cap ∧ (∀ i, i < zs.length → w.cell? (x.add i) = some (.int k (zs.getD i 0))) ∧ ∀ n ∈ zs, (Lit.int k n).wf = true

/-! ### STEP 1: THE WALK: the Go text returns true, AND WRITES NOTHING THAT WAS THERE: 'Below w.heap.size w w'' (Derived/Below.lean: '.refl', '.alloc', '.drew', '.setCell' at a new block, '.trans'). Open each 'IsRow' by 'rcases' AHEAD of 'go_enter'; part every test ahead of the walk. -/
theorem walk (a0 : Option Addr) (len0 cap0 : Nat) (z0 : List Int) (w : World) (w0 : IsRow .u8 w a0 len0 cap0 z0) :
    Calls Try.prog 5 #[.slice a0 len0 cap0] w fun e w' => e = .returned (.bool true) ∧ Below w.heap.size w w' := by
  have hr := rdB_of_row w0
  clear w0
  generalize List.take len0 z0 = cs at hr
  have HR := Lib.hid hr; clear hr
  by_cases hbig : len0 ≤ 4096
  · go_enter Try.func5, Try.ntmps5
    go_wp2_with fail
    refine (big_no _ _ _ _ hbig).mono ?_
    rintro e w' ⟨rfl, rfl⟩
    go_wp2_with fail
    refine (drawPadLine_any _ _ _ cs _ HR.out (by omega)).mono ?_
    rintro e w1 ⟨v1, xs, b, a, rfl, o1, hxl, b1⟩
    obtain ⟨p1, c1, rfl, o1, ra⟩ := o1.get
    clear o1
    have H : Held 2 w1 w1 [] := Held.start
    obtain ⟨r0, r1, hF⟩ : ∃ r0 r1, padLine xs b a = (r0, r1) := ⟨_, _, rfl⟩
    have HF := Lib.hid hF; clear hF
    have hrl : r0.length ≤ 8192 := by have h := padLine_len xs b a; rw [HF.out] at h; exact h
    go_wp2_with fail
    refine (padLine_any _ _ _ _ _ _ (ra.below H.below) (by omega)).mono ?_
    rintro e w2 m2
    rw [HF.out] at m2
    change Makes2 2 _ r0 r1 _ _ at m2
    obtain ⟨p2, c2, rfl, o2, -, b2⟩ := m2.get
    have hcap2 := Own.cap o2
    replace H := H.make o2 b2
    clear o2 b2 m2
    go_wp2_with fail
    refine (sPadLine_any _ _ _ _ _ _ (ra.below H.below) (by omega)).mono ?_
    rintro e w3 m3
    rw [HF.out] at m3
    change Makes2 2 _ r0 r1 _ _ at m3
    obtain ⟨p3, c3, rfl, o3, -, b3⟩ := m3.get
    replace H := H.make o3 b3
    clear o3 b3 m3
    go_wp2_with fail
    refine (drawTransmissionSize_any _ _ _ cs _ (rdB_later HR.out (below_two b1 H.below)) (by omega)).mono ?_
    rintro e w4 ⟨n4, p4, rfl, b4⟩
    replace H := H.still b4
    clear b4
    obtain ⟨s0, s1, hS⟩ : ∃ s0 s1, transmissionSize n4 p4 = (s0, s1) := ⟨_, _, rfl⟩
    have HS := Lib.hid hS; clear hS
    go_wp2_with fail
    refine (transmissionSize_any _ _ _).mono ?_
    rintro e w' ⟨rfl, rfl⟩
    rw [HS.out]
    go_wp2_with fail
    refine (sTransmissionSize_any _ _ _).mono ?_
    rintro e w' ⟨rfl, rfl⟩
    rw [HS.out]
    have t1 : (r1 != r1) = false := by simp
    have t2 : (s1 != s1) = false := by simp
    have t3 : (s0 != s0) = false := by simp
    go_wp2_with fail
    refine (like_yes _ _ _ _ _ _ _ _ (H.rd 1 rfl rfl) (H.rd 0 rfl rfl) (by omega)).mono ?_
    rintro e w5 ⟨rfl, b5⟩
    replace H := H.still b5
    clear b5
    by_cases hr1 : r1 = 0
    · subst hr1
      have t4 : ((0 : Int) != 0) = false := rfl
      obtain ⟨pb0, pb1, pa0, pa1, -, hll, hmid, hsum⟩ := padded_law HF.out
      obtain ⟨hxb, hxn, hrb⟩ := padded_bits HF.out
      obtain ⟨u, rfl⟩ := Int.eq_ofNat_of_zero_le pb0
      obtain ⟨hs1, hs2⟩ := sum_bits hxb
      obtain ⟨hs3, hs4⟩ := sum_bits hrb
      obtain ⟨A, hA⟩ : ∃ A, xs.sum = A := ⟨_, rfl⟩
      obtain ⟨B, hB⟩ : ∃ B, r0.sum = B := ⟨_, rfl⟩
      rw [hA] at hs1 hs2 hsum
      rw [hB] at hs3 hs4 hsum
      have HA := Lib.hid hA; have HB := Lib.hid hB; clear hA hB
      rw [Int.toNat_natCast] at hmid
      have hrs : Rd w5 (Option.map (fun (x : Addr) => x.add u) p2) xs.length xs := by
        have h := (H.rd 1 rfl rfl).slice (a := u) (k := xs.length) (by omega)
        rwa [hmid] at h
      have HRS := Lib.hid hrs; clear hrs hmid
      have HXB := Lib.hid hxb; have HRB := Lib.hid hrb; clear hxb hrb
      have t5 : ((r0.length : Int) == (xs.length : Int) + (u : Int) + a) = true := by simp; omega
      have t6 : (B == A + (u : Int) + a) = true := by simp; omega
      have w1' : IntKind.i64.wrap ((xs.length : Int) + (u : Int)) = (xs.length : Int) + (u : Int) := by rw [IntKind.wrap_i64]; omega
      have w2' : IntKind.i64.wrap ((xs.length : Int) + (u : Int) + a) = (xs.length : Int) + (u : Int) + a := by rw [IntKind.wrap_i64]; omega
      have w3' : IntKind.i64.wrap ((u : Int) + (xs.length : Int)) = (u : Int) + (xs.length : Int) := by rw [IntKind.wrap_i64]; omega
      have w4' : IntKind.i64.wrap (A + (u : Int)) = A + (u : Int) := by rw [IntKind.wrap_i64]; omega
      have w5' : IntKind.i64.wrap (A + (u : Int) + a) = A + (u : Int) + a := by rw [IntKind.wrap_i64]; omega
      have hlen1 : u + xs.length - u = xs.length := by omega
      obtain ⟨hc1, hc2⟩ := hcap2
      by_cases hce : c2 = u
      · have hrs0 : Hid (Rd w5 p2 xs.length xs) := Lib.hid (by rw [show xs = [] from List.eq_nil_of_length_eq_zero (by omega)]; exact Rd.nil_)
        go_wp2_with fail
        refine (like_yes _ _ _ _ _ _ _ _ hrs0.out (ra.below H.below) (by omega)).mono ?_
        rintro e w6 ⟨rfl, b6⟩
        replace H := H.still b6
        clear b6
        go_wp2_with fail
        refine (sumB_any _ _ _ _ _ (H.rd 1 rfl rfl) (by omega) HRB.out).mono ?_
        rintro e w' ⟨rfl, rfl⟩
        rw [HB.out]
        go_wp2_with fail
        refine (sumB_any _ _ _ _ _ (ra.below H.below) (by omega) HXB.out).mono ?_
        rintro e w' ⟨rfl, rfl⟩
        rw [HA.out]
        go_wp2_with fail
        go_ret
        exact ⟨rfl, below_two b1 H.below⟩
      · skip
        go_wp2_with fail
        refine (like_yes _ _ _ _ _ _ _ _ HRS.out (ra.below H.below) (by omega)).mono ?_
        rintro e w6 ⟨rfl, b6⟩
        replace H := H.still b6
        clear b6
        go_wp2_with fail
        refine (sumB_any _ _ _ _ _ (H.rd 1 rfl rfl) (by omega) HRB.out).mono ?_
        rintro e w' ⟨rfl, rfl⟩
        rw [HB.out]
        go_wp2_with fail
        refine (sumB_any _ _ _ _ _ (ra.below H.below) (by omega) HXB.out).mono ?_
        rintro e w' ⟨rfl, rfl⟩
        rw [HA.out]
        go_wp2_with fail
        go_ret
        exact ⟨rfl, below_two b1 H.below⟩
    · have t4 : (r1 != 0) = true := by simp [hr1]
      clear hr1
      go_wp2_with fail
      go_ret
      exact ⟨rfl, below_two b1 H.below⟩
  · go_enter Try.func5, Try.ntmps5
    go_wp2_with fail
    refine (big_yes _ _ _ _ hbig).mono ?_
    rintro e w' ⟨rfl, rfl⟩
    go_wp2
    go_ret
    exact ⟨rfl, Below.refl _ _⟩


end Go.Proofs.Ytilkopbfbmibgaa.fnPadded
