/-
  The walk of laws.FnCrcAppended: at every input it returns true and writes nothing that was there.
-/
import Derived.Test.YtadmpfmpmpdbeaaRows
import Derived.Test.YtadmpfmpmpdbeaaC2s
import Derived.WalkKit
import Derived.ProofKit
import Derived.OpenShut
import Derived.ShutString
import Derived.ChangeOld
import Derived.Below
namespace Go.Proofs.Ytadmpfmpmpdbeaa.fnCrcAppended
open Go.ChangeShapes Go.WideShapes Go.ChangeAt Go.RowKit
open Go.ChangeMaps (open_string shut_string)
set_option linter.unusedVariables false


/-- WHAT THE WALK IS TOLD OF A SLICE OF INTEGERS THAT CAME IN: it is nil; or it leads to a row of 'cap' cells, the numbers 'zs' (the first 'len' are its elements, the rest its spare room), each fitting its kind. -/
def IsRow (k : IntKind) (w : World) (a : Option Addr) (len cap : Nat) (zs : List Int) : Prop :=
  (a = none ∧ len = 0 ∧ cap = 0 ∧ zs = []) ∨
  ∃ x, a = some x ∧ len ≤ cap ∧ cap ≤ maxLen ∧ zs.length = cap ∧ (∀ i, i < zs.length → w.cell? (x.add i) = some (.int k (zs.getD i 0))) ∧ ∀ n ∈ zs, (Lit.int k n).wf = true

/-! ### STEP 1: THE WALK: the Go text returns true, AND WRITES NOTHING THAT WAS THERE: 'Below w.heap.size w w'' (Derived/Below.lean: '.refl', '.alloc', '.drew', '.setCell' at a new block, '.trans'). Open each 'IsRow' by 'rcases' AHEAD of 'go_enter'; part every test ahead of the walk. -/
set_option maxHeartbeats 1000000 in
theorem walk (a0 : Option Addr) (len0 cap0 : Nat) (z0 : List Int) (w : World) (w0 : IsRow .u8 w a0 len0 cap0 z0) :
    Calls Try.prog 6 #[.slice a0 len0 cap0] w fun e w' => e = .returned (.bool true) ∧ Below w.heap.size w w' := by
  have hr := rdB_of_row w0
  clear w0
  generalize List.take len0 z0 = cs at hr
  have HR := Lib.hid hr; clear hr
  by_cases hbig : len0 ≤ 4096
  · go_enter Try.func6, Try.ntmps6
    go_wp2_with fail
    refine (big_no _ _ _ _ hbig).mono ?_
    rintro e w' ⟨rfl, rfl⟩
    go_wp2_with fail
    refine (drawAppendCrc_any _ _ _ cs _ HR.out (by omega)).mono ?_
    rintro e w1 ⟨wd, pl, s, v1, xs, rfl, o1, hxl, b1⟩
    obtain ⟨p1, c1, rfl, o1, -⟩ := o1.get
    have H : HeldC 2 25 w (w1.alloc (.cells #[.int .i64 wd, .int .i64 pl] 25)) w1.heap.size wd pl _ := HeldC.start o1 b1
    obtain ⟨C, hC⟩ : ∃ C, C = w1.heap.size := ⟨_, rfl⟩
    clear o1 b1
    obtain ⟨r0, r1, hF⟩ : ∃ r0 r1, appendCrc wd pl s xs = (r0, r1) := ⟨_, _, rfl⟩
    have hrl : r0.length ≤ 8192 := by have h := appendCrc_len wd pl s xs; rw [hF] at h; exact h
    have HF := Lib.hid hF; clear hF
    go_wp2_with fail
    rw [← hC] at H ⊢
    clear hC
    refine (appendCrc_any _ _ _ _ _ xs _ (H.rd 0 rfl rfl) (by omega)).mono ?_
    rintro e w2 m2
    rw [HF.out] at m2
    change Makes2 2 _ r0 r1 _ _ at m2
    obtain ⟨p2, c2, rfl, o2, -, b2⟩ := m2.get
    replace H := H.make o2 b2
    clear o2 b2 m2
    have hc0 := H.st.c0
    have hc1 := H.st.c1
    go_wp2_with fail
    clear hc0 hc1
    refine (sAppendCrc_any _ _ _ _ _ xs _ (H.rd 1 rfl rfl) (by omega)).mono ?_
    rintro e w3 m3
    rw [HF.out] at m3
    change Makes2 2 _ r0 r1 _ _ at m3
    obtain ⟨p3, c3, rfl, o3, -, b3⟩ := m3.get
    replace H := H.make o3 b3
    clear o3 b3 m3
    go_wp2_with fail
    refine (drawHasCrc_any _ _ _ cs _ (rdB_grow HR.out H.below) (by omega)).mono ?_
    rintro e w4 ⟨wd2, pl2, s2, v4, ys, rfl, o4, hyl, b4⟩
    obtain ⟨p4, c4, rfl, o4, -⟩ := o4.get
    replace H := H.make o4 b4
    clear o4 b4
    replace H := H.still ((Below.refl w4.heap.size w4).alloc (Nat.le_refl _) (.cells #[.int .i64 wd2, .int .i64 pl2] 25))
    have K := StructAt.new (T := 25) (x := wd2) (y := pl2) w4
    go_upto_region 7 with fail
    generalize w4.alloc (.cells #[.int .i64 wd2, .int .i64 pl2] 25) = w5 at H K ⊢
    obtain ⟨D, hD⟩ : ∃ D, D = w4.heap.size := ⟨_, rfl⟩
    rw [← hD] at K ⊢
    clear hD
    have H5 := Lib.hid (H.still (Below.refl w5.heap.size w5).drew)
    have K5 := Lib.hid (show StructAt 25 w5.drew D wd2 pl2 from K)
    have hcap := (H.get 0 rfl).cap
    obtain ⟨hcap1, hcap2⟩ := hcap
    obtain ⟨hh, hhh⟩ : ∃ hh, hasCrc wd2 pl2 s2 ys = hh := ⟨_, rfl⟩
    have HH := Lib.hid hhh; clear hhh H K
    go_region_held3 (fun w' => w'.cell? ⟨D, 0, none⟩ = some (.int .i64 wd2) ∧ w'.cell? ⟨D, 1, none⟩ = some (.int .i64 pl2))
      (first | exact ⟨K5.out.c0, K5.out.c1⟩ | exact ⟨K6.out.c0, K6.out.c1⟩ | exact ⟨K7.out.c0, K7.out.c1⟩ | exact ⟨K8.out.c0, K8.out.c1⟩)
      (first
        | (go_at_call 22; (with_reducible refine (like_yes _ _ _ _ _ _ _ _ (H5.out.rd 2 rfl rfl) (H5.out.rd 1 rfl rfl) (by omega)).mono ?_); rintro e w6 ⟨rfl, b6⟩; have H6 := Lib.hid (H5.out.still b6); have K6 := Lib.hid (K5.out.below b6 K5.out.lt); clear b6)
        | (go_at_call 40; (with_reducible refine (hasCrc_any _ _ _ _ _ ys _ (H6.out.rd 0 rfl rfl) (by omega) hcap1 hcap2).mono ?_); rintro e w7 ⟨rfl, b7⟩; rw [HH.out]; have H7 := Lib.hid (H6.out.still b7); have K7 := Lib.hid (K6.out.below b7 K6.out.lt); clear b7)
        | (go_at_call 41; (with_reducible refine (sHasCrc_any _ _ _ _ _ ys _ (H7.out.rd 0 rfl rfl) (by omega)).mono ?_); rintro e w8 ⟨rfl, b8⟩; rw [HH.out]; have H8 := Lib.hid (H7.out.still b8); have K8 := Lib.hid (K7.out.below b8 K7.out.lt); clear b8))
    have hxx : (hh != hh) = false := by simp
    by_cases hr1 : r1 = 0
    · subst hr1
      have har := appended_round HF.out
      obtain ⟨W, rfl, hW1, hW2, hol, hcr, hhc⟩ := har
      have HCR := Lib.hid hcr; clear hcr
      have HHC := Lib.hid hhc; clear hhc
      have hlen : ((r0.length : Int) == (xs.length : Int) + (W : Int)) = true := by rw [hol]; simp
      have hle1 : r0.length ≤ xs.length + W := by omega
      have hle2 : xs.length + W ≤ r0.length := by omega
      clear hol
      have hc0 := H8.out.st.c0
      have hc1 := H8.out.st.c1
      go_wp2_with fail
      clear hc0 hc1
      refine (crcOfBits_any _ _ _ _ _ r0 _ (H8.out.rd 2 rfl rfl) (by omega)).mono ?_
      rintro e w9 ⟨rfl, b9⟩
      rw [HCR.out]
      have H9 := Lib.hid (H8.out.still b9)
      clear b9
      have hc0 := H9.out.st.c0
      have hc1 := H9.out.st.c1
      have hcp := (H9.out.get 2 rfl).cap
      obtain ⟨hcp1, hcp2⟩ := hcp
      go_wp2_with fail
      clear hc0 hc1
      refine (hasCrc_any _ _ _ _ _ r0 _ (H9.out.rd 2 rfl rfl) (by omega) hcp1 hcp2).mono ?_
      rintro e w10 ⟨rfl, b10⟩
      rw [HHC.out]
      have H10 := Lib.hid (H9.out.still b10)
      clear b10
      have hc0 := H10.out.st.c0
      go_wp2
      go_ret
      exact ⟨rfl, H10.out.below⟩
    · have t1 : (r1 != 0) = true := by simp [hr1]
      clear hr1
      go_wp2
      go_ret
      exact ⟨rfl, H8.out.below⟩
  · go_enter Try.func6, Try.ntmps6
    go_wp2_with fail
    refine (big_yes _ _ _ _ hbig).mono ?_
    rintro e w' ⟨rfl, rfl⟩
    go_wp2
    go_ret
    exact ⟨rfl, Below.refl _ _⟩


end Go.Proofs.Ytadmpfmpmpdbeaa.fnCrcAppended
