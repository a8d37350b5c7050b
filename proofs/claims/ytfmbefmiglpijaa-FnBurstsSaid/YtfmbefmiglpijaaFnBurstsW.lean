/-
  The walk of laws.FnBursts: at every input it returns true and writes nothing that was there.
-/
import Derived.Test.YtfmbefmiglpijaaRows
import Derived.Test.YtfmbefmiglpijaaC3m
import Derived.WalkKit
import Derived.ProofKit
import Derived.OpenShut
import Derived.ShutString
import Derived.ChangeOld
import Derived.Below
namespace Go.Proofs.Ytfmbefmiglpijaa.fnBursts
open Go.ChangeShapes Go.WideShapes Go.ChangeAt Go.RowKit
open Go.ChangeMaps (open_string shut_string)
set_option linter.unusedVariables false


/-- WHAT THE WALK IS TOLD OF A SLICE OF INTEGERS THAT CAME IN: it is nil; or it leads to a row of 'cap' cells, the numbers 'zs' (the first 'len' are its elements, the rest its spare room), each fitting its kind. -/
def IsRow (k : IntKind) (w : World) (a : Option Addr) (len cap : Nat) (zs : List Int) : Prop :=
  (a = none ∧ len = 0 ∧ cap = 0 ∧ zs = []) ∨
  ∃ x, a = some x ∧ len ≤ cap ∧ cap ≤ maxLen ∧ zs.length = cap ∧ (∀ i, i < zs.length → w.cell? (x.add i) = some (.int k (zs.getD i 0))) ∧ ∀ n ∈ zs, (Lit.int k n).wf = true

/-! ### STEP 1: THE WALK: the Go text returns true, AND WRITES NOTHING THAT WAS THERE: 'Below w.heap.size w w'' (Derived/Below.lean: '.refl', '.alloc', '.drew', '.setCell' at a new block, '.trans'). Open each 'IsRow' by 'rcases' AHEAD of 'go_enter'; part every test ahead of the walk. -/
set_option maxHeartbeats 1000000 in
theorem walk (a0 : Option Addr) (len0 cap0 : Nat) (z0 : List Int) (w : World) (w0 : IsRow .u8 w a0 len0 cap0 z0) :
    Calls Try.prog 6 #[.slice a0 len0 cap0] w fun e w' => e = .returned (.bool true) ∧ Below w.heap.size w w' := by
  have hr := rdB_of_row w0
  clear w0
  generalize List.take len0 z0 = cs at hr
  have HR := Lib.hid hr; clear hr
  by_cases hbig : len0 ≤ 4096
  · go_enter Try.func6, Try.ntmps6
    go_wp2_with fail
    refine (big_no _ _ _ _ hbig).mono ?_
    rintro e w' ⟨rfl, rfl⟩
    go_wp2_with fail
    refine (drawBurstOf_any _ _ _ cs _ HR.out (by omega)).mono ?_
    rintro e w1 ⟨v1, xs, rfl, o1, hxl, b1⟩
    obtain ⟨p1, c1, rfl, o1, rx⟩ := o1.get
    have hcap := o1.cap
    obtain ⟨hcap1, hcap2⟩ := hcap
    have HX := Lib.hid rx; clear o1 rx
    obtain ⟨b0, bl1, bc, hF⟩ : ∃ b0 b1 bc, burstOf xs = (b0, b1, bc) := ⟨_, _, _, rfl⟩
    have HF := Lib.hid hF; clear hF
    go_wp2_with fail
    refine (burstOf_any _ _ _ xs _ HX.out (by omega)).mono ?_
    rintro e w' ⟨rfl, rfl⟩
    rw [HF.out]
    go_wp2_with fail
    refine (sBurstOf_any _ _ _ xs _ HX.out (by omega)).mono ?_
    rintro e w' ⟨rfl, rfl⟩
    rw [HF.out]
    go_wp2_with fail
    refine (drawSumErrors_any _ _ _ cs _ (rdB_grow HR.out b1) (by omega)).mono ?_
    rintro e w2 ⟨v2, as_, v3, bs, rfl, oa, ob, hal, hbl, b2⟩
    obtain ⟨pa, ca, rfl, oa, ra⟩ := oa.get
    obtain ⟨pb, cb, rfl, ob, rb⟩ := ob.get
    have RA := Lib.hid ra
    have RB := Lib.hid rb
    have X2 := Lib.hid (HX.out.below b2)
    have B2 := Lib.hid (below_two b1 b2)
    clear oa ob ra rb b1 b2 HX
    obtain ⟨s0, s1, hG⟩ : ∃ s0 s1, sumErrors as_ bs = (s0, s1) := ⟨_, _, rfl⟩
    have hsl : s0.length ≤ 8192 := by have h := sumErrors_len as_ bs; rw [hG] at h; exact h
    have HG := Lib.hid hG; clear hG
    have H : Held 2 w2 w2 [] := Held.start
    go_wp2_with fail
    refine (sumErrors_any _ _ _ _ _ _ _ _ _ (RA.out.below H.below) (RB.out.below H.below) (by omega) (by omega)).mono ?_
    rintro e w3 m3
    rw [HG.out] at m3
    change Makes2 2 _ s0 s1 _ _ at m3
    obtain ⟨p3, c3, rfl, o3, -, b3⟩ := m3.get
    replace H := H.make o3 b3
    clear o3 b3 m3
    go_wp2_with fail
    refine (sSumErrors_any _ _ _ _ _ _ _ _ _ (RA.out.below H.below) (RB.out.below H.below) (by omega) (by omega)).mono ?_
    rintro e w4 m4
    rw [HG.out] at m4
    change Makes2 2 _ s0 s1 _ _ at m4
    obtain ⟨p4, c4, rfl, o4, -, b4⟩ := m4.get
    replace H := H.make o4 b4
    clear o4 b4 m4
    have t1 : (bc != bc) = false := by simp
    have t2 : (b0 != b0) = false := by simp
    have t3 : (bl1 != bl1) = false := by simp
    have t4 : (s1 != s1) = false := by simp
    go_wp2_with fail
    refine (like_yes _ _ _ _ _ _ _ _ (H.rd 1 rfl rfl) (H.rd 0 rfl rfl) (by omega)).mono ?_
    rintro e w5 ⟨rfl, b5⟩
    replace H := H.still b5
    clear b5 t1 t2 t3 t4
    by_cases hs1 : s1 = 0
    · subst hs1
      have hsr := sum_round HG.out
      have HSR := Lib.hid hsr; clear hsr
      go_wp2_with fail
      refine (sumErrors_any _ _ _ _ _ _ _ _ _ (H.rd 1 rfl rfl) (RB.out.below H.below) (by omega) (by omega)).mono ?_
      rintro e w6 m6
      rw [HSR.out] at m6
      change Makes2 2 _ as_ 0 _ _ at m6
      obtain ⟨p6, c6, rfl, o6, -, b6⟩ := m6.get
      replace H := H.make o6 b6
      clear o6 b6 m6
      go_wp2_with fail
      refine (like_yes _ _ _ _ _ _ _ _ (H.rd 0 rfl rfl) (RA.out.below H.below) (by omega)).mono ?_
      rintro e w7 ⟨rfl, b7⟩
      replace H := H.still b7
      have HE := Lib.hid H.below
      clear b7 H
      by_cases hbc : bc = 0
      · subst hbc
        obtain ⟨f, l, rfl, rfl, hl0, hfl, hg1, hg2, hbits, hwt⟩ := burst_get HF.out
        have HBI := Lib.hid hbits; clear hbits
        obtain ⟨T, hT⟩ : ∃ T, T = weight xs := ⟨_, rfl⟩
        rw [← hT] at hwt
        have HT := Lib.hid hT.symm; clear hT
        have HWT := Lib.hid hwt; clear hwt
        have hrx := X2.out.below HE.out
        have hsx := hrx.slice (a := f) (k := l) hfl
        obtain ⟨b, off, rfl, hall⟩ := hrx.here (by omega)
        have hca := hall f (by omega)
        have hcb := hall (f + l - 1) (by omega)
        rw [hg1] at hca
        rw [hg2] at hcb
        clear hall hg1 hg2
        obtain ⟨e, he⟩ : ∃ e, e = f + l := ⟨_, rfl⟩
        obtain ⟨d, hd⟩ : ∃ d, d = f + l - 1 := ⟨_, rfl⟩
        rw [← hd] at hcb
        have q1 : (f : Int) + (l : Int) = (e : Int) := by omega
        have q2 : (e : Int) - 1 = (d : Int) := by omega
        have q3 : (f : Int) ≤ (e : Int) := by omega
        have q4 : (e : Int) ≤ (c1 : Int) := by omega
        have q5 : (f : Int) < (xs.length : Int) := by omega
        have q6 : (d : Int) < (xs.length : Int) := by omega
        have q7 : e ≤ 9000 := by omega
        have q8 : d ≤ 9000 := by omega
        have q9 : f ≤ 9000 := by omega
        have q10 : l ≤ 9000 := by omega
        have q11 := wrapK_small (e : Int) (by omega)
        have q12 := wrapK_small (d : Int) (by omega)
        have q13 : IntKind.i64.wrap ((f : Int) + (l : Int)) = (e : Int) := by rw [q1]; exact q11
        have q14 : IntKind.i64.wrap ((e : Int) - 1) = (d : Int) := by rw [q2]; exact q12
        have hne : c1 ≠ f := by clear q11 q12 q13 q14; omega
        have hlf : e - f = l := by clear q11 q12 q13 q14; omega
        have hll : e - f ≤ 1048576 := by clear q11 q12 q13 q14; omega
        have hlx : xs.length ≤ 1048576 := by clear q11 q12 q13 q14; omega
        replace hsx := hsx.part hlf
        have HRX := Lib.hid (hrx.below (Below.refl _ _).drew); clear hrx
        have HSX := Lib.hid (hsx.below (Below.refl _ _).drew); clear hsx
        have HCA := Lib.hid hca; clear hca
        have HCB := Lib.hid hcb; clear hcb
        have HBD := Lib.hid (show ∀ x ∈ (xs.drop f).take l, 0 ≤ x ∧ x ≤ 1 from fun x hx => HBI.out x (List.mem_of_mem_drop (List.mem_of_mem_take hx)))
        clear he hd hlf hfl hl0 hcap1 hcap2 hsl hal hbl hbig
        go_wp2
        go_region_held3 (fun w' => w'.cell? ⟨b, off + f, none⟩ = some (.int .i64 1) ∧ w'.cell? ⟨b, off + d, none⟩ = some (.int .i64 1))
          (exact ⟨HCA.out, HCB.out⟩)
          (first
            | (go_at_call 38; (with_reducible refine (sum_is _ _ _ xs T _ HRX.out hlx HBI.out HT.out).mono ?_); rintro e w8 ⟨rfl, rfl⟩)
            | (go_at_call 38; (with_reducible refine (sum_is _ _ _ ((xs.drop f).take l) T _ HSX.out hll HBD.out HWT.out).mono ?_); rintro e w8 ⟨rfl, rfl⟩))
        go_wp2
        go_ret
        exact ⟨rfl, (below_two B2.out HE.out).drew⟩
      · have t5 : (bc != 0) = true := by simp [hbc]
        clear hbc
        go_wp2
        go_ret
        exact ⟨rfl, below_two B2.out HE.out⟩
    · have t6 : (s1 == 0) = false := by simp [hs1]
      clear hs1
      have HE := Lib.hid H.below
      clear H
      by_cases hbc : bc = 0
      · subst hbc
        obtain ⟨f, l, rfl, rfl, hl0, hfl, hg1, hg2, hbits, hwt⟩ := burst_get HF.out
        have HBI := Lib.hid hbits; clear hbits
        obtain ⟨T, hT⟩ : ∃ T, T = weight xs := ⟨_, rfl⟩
        rw [← hT] at hwt
        have HT := Lib.hid hT.symm; clear hT
        have HWT := Lib.hid hwt; clear hwt
        have hrx := X2.out.below HE.out
        have hsx := hrx.slice (a := f) (k := l) hfl
        obtain ⟨b, off, rfl, hall⟩ := hrx.here (by omega)
        have hca := hall f (by omega)
        have hcb := hall (f + l - 1) (by omega)
        rw [hg1] at hca
        rw [hg2] at hcb
        clear hall hg1 hg2
        obtain ⟨e, he⟩ : ∃ e, e = f + l := ⟨_, rfl⟩
        obtain ⟨d, hd⟩ : ∃ d, d = f + l - 1 := ⟨_, rfl⟩
        rw [← hd] at hcb
        have q1 : (f : Int) + (l : Int) = (e : Int) := by omega
        have q2 : (e : Int) - 1 = (d : Int) := by omega
        have q3 : (f : Int) ≤ (e : Int) := by omega
        have q4 : (e : Int) ≤ (c1 : Int) := by omega
        have q5 : (f : Int) < (xs.length : Int) := by omega
        have q6 : (d : Int) < (xs.length : Int) := by omega
        have q7 : e ≤ 9000 := by omega
        have q8 : d ≤ 9000 := by omega
        have q9 : f ≤ 9000 := by omega
        have q10 : l ≤ 9000 := by omega
        have q11 := wrapK_small (e : Int) (by omega)
        have q12 := wrapK_small (d : Int) (by omega)
        have q13 : IntKind.i64.wrap ((f : Int) + (l : Int)) = (e : Int) := by rw [q1]; exact q11
        have q14 : IntKind.i64.wrap ((e : Int) - 1) = (d : Int) := by rw [q2]; exact q12
        have hne : c1 ≠ f := by clear q11 q12 q13 q14; omega
        have hlf : e - f = l := by clear q11 q12 q13 q14; omega
        have hll : e - f ≤ 1048576 := by clear q11 q12 q13 q14; omega
        have hlx : xs.length ≤ 1048576 := by clear q11 q12 q13 q14; omega
        replace hsx := hsx.part hlf
        have HRX := Lib.hid (hrx.below (Below.refl _ _).drew); clear hrx
        have HSX := Lib.hid (hsx.below (Below.refl _ _).drew); clear hsx
        have HCA := Lib.hid hca; clear hca
        have HCB := Lib.hid hcb; clear hcb
        have HBD := Lib.hid (show ∀ x ∈ (xs.drop f).take l, 0 ≤ x ∧ x ≤ 1 from fun x hx => HBI.out x (List.mem_of_mem_drop (List.mem_of_mem_take hx)))
        clear he hd hlf hfl hl0 hcap1 hcap2 hsl hal hbl hbig
        go_wp2
        go_region_held3 (fun w' => w'.cell? ⟨b, off + f, none⟩ = some (.int .i64 1) ∧ w'.cell? ⟨b, off + d, none⟩ = some (.int .i64 1))
          (exact ⟨HCA.out, HCB.out⟩)
          (first
            | (go_at_call 38; (with_reducible refine (sum_is _ _ _ xs T _ HRX.out hlx HBI.out HT.out).mono ?_); rintro e w8 ⟨rfl, rfl⟩)
            | (go_at_call 38; (with_reducible refine (sum_is _ _ _ ((xs.drop f).take l) T _ HSX.out hll HBD.out HWT.out).mono ?_); rintro e w8 ⟨rfl, rfl⟩))
        go_wp2
        go_ret
        exact ⟨rfl, (below_two B2.out HE.out).drew⟩
      · have t5 : (bc != 0) = true := by simp [hbc]
        clear hbc
        go_wp2
        go_ret
        exact ⟨rfl, below_two B2.out HE.out⟩
  · go_enter Try.func6, Try.ntmps6
    go_wp2_with fail
    refine (big_yes _ _ _ _ hbig).mono ?_
    rintro e w' ⟨rfl, rfl⟩
    go_wp2
    go_ret
    exact ⟨rfl, Below.refl _ _⟩


end Go.Proofs.Ytfmbefmiglpijaa.fnBursts
