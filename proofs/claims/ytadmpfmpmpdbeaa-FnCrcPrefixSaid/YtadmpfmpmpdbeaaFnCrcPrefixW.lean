/-
  The walk of laws.FnCrcPrefix: at every input it returns true and writes nothing that was there.
-/
import Derived.Test.YtadmpfmpmpdbeaaRows
import Derived.Test.YtadmpfmpmpdbeaaC2q
import Derived.WalkKit
import Derived.ProofKit
import Derived.OpenShut
import Derived.ShutString
import Derived.ChangeOld
import Derived.Below
namespace Go.Proofs.Ytadmpfmpmpdbeaa.fnCrcPrefix
open Go.ChangeShapes Go.WideShapes Go.ChangeAt Go.RowKit
open Go.ChangeMaps (open_string shut_string)
set_option linter.unusedVariables false


/-- WHAT THE WALK IS TOLD OF A SLICE OF INTEGERS THAT CAME IN: it is nil; or it leads to a row of 'cap' cells, the numbers 'zs' (the first 'len' are its elements, the rest its spare room), each fitting its kind. -/
def IsRow (k : IntKind) (w : World) (a : Option Addr) (len cap : Nat) (zs : List Int) : Prop :=
  (a = none ∧ len = 0 ∧ cap = 0 ∧ zs = []) ∨
  ∃ x, a = some x ∧ len ≤ cap ∧ cap ≤ maxLen ∧ zs.length = cap ∧ (∀ i, i < zs.length → w.cell? (x.add i) = some (.int k (zs.getD i 0))) ∧ ∀ n ∈ zs, (Lit.int k n).wf = true

/-! ### STEP 1: THE WALK: the Go text returns true, AND WRITES NOTHING THAT WAS THERE: 'Below w.heap.size w w'' (Derived/Below.lean: '.refl', '.alloc', '.drew', '.setCell' at a new block, '.trans'). Open each 'IsRow' by 'rcases' AHEAD of 'go_enter'; part every test ahead of the walk. -/
theorem walk (a0 : Option Addr) (len0 cap0 : Nat) (z0 : List Int) (w : World) (w0 : IsRow .u8 w a0 len0 cap0 z0) :
    Calls Try.prog 4 #[.slice a0 len0 cap0] w fun e w' => e = .returned (.bool true) ∧ Below w.heap.size w w' := by
  have hr := rdB_of_row w0
  clear w0
  generalize List.take len0 z0 = cs at hr
  have HR := Lib.hid hr; clear hr
  by_cases hbig : len0 ≤ 4096
  · go_enter Try.func4, Try.ntmps4
    go_wp2_with fail
    refine (big_no _ _ _ _ hbig).mono ?_
    rintro e w' ⟨rfl, rfl⟩
    go_wp2_with fail
    refine (drawSeedAfter_any _ _ _ cs _ HR.out (by omega)).mono ?_
    rintro e w1 ⟨wd, pl, s, v1, xs, rfl, o1, hxl, b1⟩
    obtain ⟨p1, c1, rfl, o1, -⟩ := o1.get
    have H : HeldC 2 25 w (w1.alloc (.cells #[.int .i64 wd, .int .i64 pl] 25)) w1.heap.size wd pl _ := HeldC.start o1 b1
    obtain ⟨C, hC⟩ : ∃ C, C = w1.heap.size := ⟨_, rfl⟩
    clear o1 b1
    obtain ⟨r0, r1, hF⟩ : ∃ r0 r1, crcOfBits wd pl s xs = (r0, r1) := ⟨_, _, rfl⟩
    have HF := Lib.hid hF; clear hF
    go_wp2_with fail
    rw [← hC] at H ⊢
    clear hC
    refine (seedAfter_any _ _ _ _ _ xs _ (H.rd 0 rfl rfl) (by omega)).mono ?_
    rintro e w2 ⟨rfl, b2⟩
    replace H := H.still b2
    rw [HF.out]
    clear b2
    have hc0 := H.st.c0
    have hc1 := H.st.c1
    go_wp2_with fail
    clear hc0 hc1
    refine (sSeedAfter_any _ _ _ _ _ xs _ (H.rd 0 rfl rfl) (by omega)).mono ?_
    rintro e w3 ⟨rfl, b3⟩
    replace H := H.still b3
    rw [HF.out]
    clear b3
    have hc0 := H.st.c0
    have hc1 := H.st.c1
    go_wp2_with fail
    clear hc0 hc1
    refine (crcOfBits_any _ _ _ _ _ xs _ (H.rd 0 rfl rfl) (by omega)).mono ?_
    rintro e w4 ⟨rfl, b4⟩
    replace H := H.still b4
    rw [HF.out]
    clear b4
    have hc0 := H.st.c0
    have hc1 := H.st.c1
    go_wp2_with fail
    clear hc0 hc1
    refine (sCrcOfBits_any _ _ _ _ _ xs _ (H.rd 0 rfl rfl) (by omega)).mono ?_
    rintro e w5 ⟨rfl, b5⟩
    replace H := H.still b5
    rw [HF.out]
    clear b5
    by_cases hr1 : r1 = 0
    · subst hr1
      go_wp2_with fail
      refine (roll_any _ _ _ cs _ _ (rdB_grow HR.out H.below) (by omega)).mono ?_
      rintro e w6 ⟨d, rfl, hd, hs6, b6⟩
      go_wp2_with fail
      refine (below_any d _ _ hs6 (by omega) (by omega)).mono ?_
      rintro e w7 ⟨k, rfl, hk0, hk1, -, g7⟩
      replace H := H.still (below_thrown b6 g7 hd)
      obtain ⟨k, rfl⟩ := Int.eq_ofNat_of_zero_le hk0
      have hk2 : k ≤ xs.length := by omega
      clear b6 g7 hd hs6 hk0 hk1
      obtain ⟨a, hA, hB⟩ := prefix_round HF.out k
      have HA := Lib.hid hA; clear hA
      have HB := Lib.hid hB; clear hB
      have hcap := (H.get 0 rfl).cap
      obtain ⟨hcap1, hcap2⟩ := hcap
      have hm0 : (0 : Int) ≤ (k : Int) := by omega
      have hm1 : (k : Int) ≤ (xs.length : Int) := by omega
      have hm2 : (k : Int) ≤ (c1 : Int) := by omega
      have hm3 : (xs.length : Int) ≤ (c1 : Int) := by omega
      obtain ⟨n, hnn⟩ : ∃ n, n = xs.length := ⟨_, rfl⟩
      have hfr := (H.rd 0 rfl rfl).front hk2
      have hfl : (xs.take k).length ≤ 1048576 := by rw [List.length_take]; omega
      have HFR := Lib.hid (hfr.below (Below.refl w7.heap.size w7).drew); clear hfr
      have hd7 := H.still (Below.refl w7.heap.size w7).drew
      have H7 := Lib.hid hd7; clear hd7
      go_wp2
      go_region_held3 (fun w' => w'.cell? ⟨C, 0, none⟩ = some (.int .i64 wd) ∧ w'.cell? ⟨C, 1, none⟩ = some (.int .i64 pl))
        (first | exact ⟨H7.out.st.c0, H7.out.st.c1⟩ | exact ⟨H8.out.st.c0, H8.out.st.c1⟩)
        (first
          | (go_at_call 28; (refine (seedAfter_at _ _ _ _ _ _ (xs.take k) _ HFR.out (by omega)).mono ?_); rintro e w8 ⟨rfl, b8⟩; rw [HA.out]; have H8 := Lib.hid (H7.out.still b8); clear b8))
      have hml : xs.length - k ≤ 1048576 := by omega
      have hdt : (xs.drop k).take (xs.length - k) = xs.drop k := List.take_of_length_le (by rw [List.length_drop]; omega)
      have HDT := Lib.hid hdt; clear hdt
      have H9 := Lib.hid (H8.out.still (Below.refl w8.heap.size w8).drew)
      by_cases hck : c1 = k
      · have hdr := (H9.out.rd 0 rfl rfl).slice_end (a := k) (k := xs.length - k) (by omega) hcap1 hck
        rw [HDT.out] at hdr
        have hz : xs.length - k = 0 := by omega
        have hdz := hdr
        rw [hz] at hdz
        clear hz
        have HDR := Lib.hid hdr; clear hdr
        have HDZ := Lib.hid hdz; clear hdz
        subst hck
        go_wp2
        go_region_held3 (fun w' => w'.cell? ⟨C, 0, none⟩ = some (.int .i64 wd) ∧ w'.cell? ⟨C, 1, none⟩ = some (.int .i64 pl))
          (first | exact ⟨H9.out.st.c0, H9.out.st.c1⟩ | exact ⟨HX.out.st.c0, HX.out.st.c1⟩)
          (first
            | (go_at_call 26; (with_reducible refine (crcOfBits_at _ _ _ _ _ _ (xs.drop c1) _ HDZ.out (by omega)).mono ?_); rintro e w10 ⟨rfl, b10⟩; rw [HB.out]; have HX := Lib.hid (H9.out.still b10); clear b10)
            | (go_at_call 26; (with_reducible refine (crcOfBits_at _ _ _ _ _ _ (xs.drop c1) _ HDR.out hml).mono ?_); rintro e w10 ⟨rfl, b10⟩; rw [HB.out]; have HX := Lib.hid (H9.out.still b10); clear b10))
        go_wp2
        go_ret
        exact ⟨rfl, HX.out.below⟩
      · have hdr := (H9.out.rd 0 rfl rfl).slice (a := k) (k := xs.length - k) (by omega)
        rw [HDT.out] at hdr
        have HDR := Lib.hid hdr; clear hdr
        go_wp2
        go_region_held3 (fun w' => w'.cell? ⟨C, 0, none⟩ = some (.int .i64 wd) ∧ w'.cell? ⟨C, 1, none⟩ = some (.int .i64 pl))
          (first | exact ⟨H9.out.st.c0, H9.out.st.c1⟩ | exact ⟨HX.out.st.c0, HX.out.st.c1⟩)
          (first
            | (go_at_call 26; (with_reducible refine (crcOfBits_at _ _ _ _ _ _ (xs.drop k) _ HDR.out hml).mono ?_); rintro e w10 ⟨rfl, b10⟩; rw [HB.out]; have HX := Lib.hid (H9.out.still b10); clear b10))
        go_wp2
        go_ret
        exact ⟨rfl, HX.out.below⟩
    · have t1 : (r1 != 0) = true := by simp [hr1]
      clear hr1
      go_wp2_with fail
      go_ret
      exact ⟨rfl, H.below⟩
  · go_enter Try.func4, Try.ntmps4
    go_wp2_with fail
    refine (big_yes _ _ _ _ hbig).mono ?_
    rintro e w' ⟨rfl, rfl⟩
    go_wp2
    go_ret
    exact ⟨rfl, Below.refl _ _⟩


end Go.Proofs.Ytadmpfmpmpdbeaa.fnCrcPrefix
