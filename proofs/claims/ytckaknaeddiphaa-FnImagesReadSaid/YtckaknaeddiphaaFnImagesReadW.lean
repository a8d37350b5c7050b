/-
  The walk of laws.FnImagesRead: at every input it returns true and writes nothing that was there.
-/
import Derived.Test.YtckaknaeddiphaaRows
import Derived.Test.YtckaknaeddiphaaKF
import Derived.Test.YtckaknaeddiphaaKG
import Derived.Test.YtckaknaeddiphaaDrawA
import Derived.Test.YtckaknaeddiphaaLawC
import Derived.Test.YtckaknaeddiphaaBase
import Derived.WalkKit
import Derived.ProofKit
import Derived.OpenShut
import Derived.ShutString
import Derived.ChangeOld
import Derived.Below
namespace Go.Proofs.Ytckaknaeddiphaa.fnImagesRead
open Go.ChangeShapes Go.WideShapes Go.ChangeAt Go.RowKit
open Go.ChangeMaps (open_string shut_string)
set_option linter.unusedVariables false


/-- WHAT THE WALK IS TOLD OF A SLICE OF INTEGERS THAT CAME IN: it is nil; or it leads to a row of 'cap' cells, the numbers 'zs' (the first 'len' are its elements, the rest its spare room), each fitting its kind. -/
def IsRow (k : IntKind) (w : World) (a : Option Addr) (len cap : Nat) (zs : List Int) : Prop :=
  (a = none ∧ len = 0 ∧ cap = 0 ∧ zs = []) ∨
  ∃ x, a = some x ∧ len ≤ cap ∧ cap ≤ maxLen ∧ zs.length = cap ∧ (∀ i, i < zs.length → w.cell? (x.add i) = some (.int k (zs.getD i 0))) ∧ ∀ n ∈ zs, (Lit.int k n).wf = true

/-! ### STEP 1: THE WALK: the Go text returns true, AND WRITES NOTHING THAT WAS THERE: 'Below w.heap.size w w'' (Derived/Below.lean: '.refl', '.alloc', '.drew', '.setCell' at a new block, '.trans'). Open each 'IsRow' by 'rcases' AHEAD of 'go_enter'; part every test ahead of the walk. -/
set_option linter.unusedVariables false in set_option maxHeartbeats 2000000 in set_option maxRecDepth 100000 in
theorem walk (a0 : Option Addr) (len0 cap0 : Nat) (z0 : List Int) (w : World) (w0 : IsRow .u8 w a0 len0 cap0 z0) :
    Calls Try.prog 4 #[.slice a0 len0 cap0] w fun e w' => e = .returned (.bool true) ∧ Below w.heap.size w w' := by
  have hr := rdB_of_row w0
  clear w0
  generalize List.take len0 z0 = cs at hr
  have HR := Lib.hid hr; clear hr
  by_cases hbig : len0 ≤ 4096
  rotate_left
  · go_enter Try.func4, Try.ntmps4
    go_wp2_with fail
    refine (big_yes _ _ _ _ hbig).mono ?_
    rintro e w' ⟨rfl, rfl⟩
    go_wp2
    go_ret
    exact ⟨rfl, Below.refl _ _⟩
  go_enter Try.func4, Try.ntmps4
  go_wp2_with fail
  refine (big_no _ _ _ _ hbig).mono ?_
  rintro e w' ⟨rfl, rfl⟩
  go_wp2_with fail
  refine (drawDataOfImage_any _ _ _ cs _ HR.out (by omega)).mono ?_
  rintro e w1 ⟨ao, n, cap, xs, rfl, r1, hc1, hc2, hxl, b1⟩
  obtain rfl : xs.length = n := r1.len
  have hn : xs.length ≤ 1048576 := by omega
  have H : Held 2 w1 w1 [] := Held.start
  obtain ⟨r0, c0, hF⟩ : ∃ r0 c0, dataOfImage xs = (r0, c0) := ⟨_, _, rfl⟩
  have HF := Lib.hid hF; clear hF
  have hrl : r0.length ≤ 1048576 := by have h := dataOfImage_len xs; rw [HF.out] at h; exact h
  obtain ⟨s0, d0, hG⟩ : ∃ s0 d0, damagedBlocks xs = (s0, d0) := ⟨_, _, rfl⟩
  have HG := Lib.hid hG; clear hG
  have hsl : s0.length ≤ 1048576 := by have h := damagedBlocks_len xs; rw [HG.out] at h; exact h
  go_wp2_with fail
  refine (dataOfImage_any _ _ _ _ (r1.below H.below) hn hc1 hc2).mono ?_
  rintro e w2 m2
  rw [HF.out] at m2
  change Makes2 2 _ r0 c0 _ _ at m2
  obtain ⟨p2, c2, rfl, o2, -, b2⟩ := m2.get
  replace H := H.make o2 b2
  clear o2 b2 m2
  go_wp2_with fail
  refine (sDataOfImage_any _ _ _ _ (r1.below H.below) hn hc1 hc2).mono ?_
  rintro e w3 m3
  rw [HF.out] at m3
  change Makes2 2 _ r0 c0 _ _ at m3
  obtain ⟨p3, c3, rfl, o3, -, b3⟩ := m3.get
  replace H := H.make o3 b3
  clear o3 b3 m3
  go_wp2_with fail
  refine (damagedBlocks_any _ _ _ _ (r1.below H.below) hn hc1 hc2).mono ?_
  rintro e w4 m4
  rw [HG.out] at m4
  change Makes2 2 _ s0 d0 _ _ at m4
  obtain ⟨p4, c4, rfl, o4, -, b4⟩ := m4.get
  replace H := H.make o4 b4
  clear o4 b4 m4
  go_wp2_with fail
  refine (sDamaged_any _ _ _ _ (r1.below H.below) hn hc1 hc2).mono ?_
  rintro e w5 m5
  rw [HG.out] at m5
  change Makes2 2 _ s0 d0 _ _ at m5
  obtain ⟨p5, c5, rfl, o5, -, b5⟩ := m5.get
  replace H := H.make o5 b5
  clear o5 b5 m5
  go_wp2_with fail
  refine (like_yes _ _ _ _ _ _ _ _ (H.rd 3 rfl rfl) (H.rd 2 rfl rfl) (by omega)).mono ?_
  rintro e w6 ⟨rfl, b6⟩
  replace H := H.still b6
  clear b6
  go_wp2_with fail
  refine (like_yes _ _ _ _ _ _ _ _ (H.rd 1 rfl rfl) (H.rd 0 rfl rfl) (by omega)).mono ?_
  rintro e w7 ⟨rfl, b7⟩
  replace H := H.still b7
  clear b7
  by_cases hcode : d0 = 0
  rotate_left
  · have t1 : (d0 != 0) = true := by simp [hcode]
    clear hcode
    go_wp2_with fail
    go_ret
    exact ⟨rfl, below_two b1 H.below⟩
  subst hcode
  -- the image is one of bytes
  have hby : isBytes xs = true ∧ s0 = (damaged9 xs).map fun k : Nat => (k : Int) := by
    have h := HG.out
    unfold damagedBlocks at h
    split at h
    · simp at h
    · rename_i hb
      simp only [Prod.mk.injEq, and_true] at h
      exact ⟨by simpa using hb, h.symm⟩
  obtain ⟨hby, hs0⟩ := hby
  obtain ⟨N, hN⟩ : ∃ N, (xs.length + 32) / 33 = N := ⟨_, rfl⟩
  have hat : Hid (∀ k : Nat, k < N → blockAt xs (k : Int) = (sliceOf xs k, 0)) := fun k hk => by
    unfold blockAt
    rw [if_neg (by rw [hby]; simp), if_pos (by omega)]
    simp
  have hno : Hid (blockAt xs (N : Int) = ([], 4)) := by
    show _ = _
    unfold blockAt
    rw [if_neg (by rw [hby]; simp), if_neg (by omega)]
  have hjoin : Hid ((List.range N).flatMap (sliceOf xs) = xs) := join_slices xs (by omega)
  have hN9 : N ≤ xs.length := by omega
  have hsev : Hid (c0 = 7 ↔ s0 ≠ []) := by
    show _ ↔ _
    rw [damage_code hby HF.out, hs0]
    simp
  have himg : Hid (c0 = 0 → imageOf r0 = (xs, 0)) := fun h => by
    obtain ⟨-, -, h8, hi, hb⟩ := read_image (h ▸ HF.out)
    unfold imageOf
    rw [if_neg (by rw [hb]; simp), if_neg (by omega), hi]
  clear hby hs0 HG HF
  have R1 := Lib.hid (r1.below H.below)
  have HH := Lib.hid H
  have B1 := Lib.hid b1
  have hsz := H.below.size
  clear r1 b1 H
  go_wp2
  go_loopw [12, 13] (fun v i wr => ∃ k : Nat, k ≤ N ∧ i = .int .i64 (k : Int) ∧ Hid (Own 2 wr w7.heap.size v ((List.range k).flatMap (sliceOf xs))) ∧ Hid (Below w7.heap.size w7 wr)) (fun _ i _ => N - (intOf i).toNat)
  case atStart => exact ⟨0, Nat.zero_le _, rfl, Own.of_alloc_nil (Nat.le_refl _), (Below.refl _ _).alloc (Nat.le_refl _) _⟩
  case round =>
    obtain ⟨k, hk, rfl, hown, hbel⟩ := hrel
    have hle : (k : Int) ≤ (xs.length : Int) := by omega
    by_cases hkN : k < N
    · have hb := hat.out k hkN
      have h33 := slice_len xs k
      have hsu : (List.range (k + 1)).flatMap (sliceOf xs) = (List.range k).flatMap (sliceOf xs) ++ sliceOf xs k := by
        rw [List.range_succ, List.flatMap_append]
        simp
      have hal : ((List.range k).flatMap (sliceOf xs)).length ≤ 33 * k := by
        rw [join_take, List.length_take]
        omega
      obtain ⟨acc, hacc⟩ : ∃ acc, (List.range k).flatMap (sliceOf xs) = acc := ⟨_, rfl⟩
      rw [hacc] at hsu hown hal
      obtain ⟨bs, hbs⟩ : ∃ bs, sliceOf xs k = bs := ⟨_, rfl⟩
      rw [hbs] at hsu hb h33
      obtain ⟨po, co, rfl, hown, -⟩ := hown.out.get
      have O1 := Lib.hid hown; have W1 := Lib.hid hbel.out
      have HSU := Lib.hid hsu; have HBA := Lib.hid hb
      have HAC := Lib.hid (show acc.length ≤ 1048576 ∧ bs.length ≤ 33 by omega)
      clear hown hbel hacc hbs h33 hal hsu hb
      go_wp2_with fail
      refine (blockAt_any _ _ _ _ _ (R1.out.below W1.out) hn hc1 hc2).mono ?_
      rintro e w8 m8
      rw [HBA.out] at m8
      change Makes2 2 _ bs 0 _ _ at m8
      obtain ⟨p8, c8, rfl, -, r8, b8⟩ := m8.get
      clear m8
      have R8 := Lib.hid r8; have B8 := Lib.hid b8
      clear r8 b8
      generalize bs.length = bn at *
      go_wp2_with (at_builtin; refine append_list _ rfl (.tmp 79) (.tmp 80) rfl w7.heap.size Try.underlying24 info64 _ acc rfl (O1.out.below B8.out) _ _ _ bs rfl R8.out (by have := HAC.out; omega) (by have := W1.out.size; have := B8.out.size; omega) ?_; intro v9 w9 o9 b9)
      go_roundw
      case rel => exact ⟨k + 1, by omega, by go_num, by rw [HSU.out]; exact o9, (below_two W1.out B8.out).trans b9⟩
      case measure => simp [intOf]; omega
    · have hkn : k = N := by omega
      subst hkn
      rw [hjoin.out] at hown
      obtain ⟨po, co, rfl, hown, -⟩ := hown.out.get
      obtain ⟨ao9, co9, e, hrd, -, -, -⟩ := hown.form
      cases e
      have O1 := Lib.hid hrd
      have H8 := Lib.hid (HH.out.still hbel.out)
      have R8 := Lib.hid (R1.out.below hbel.out)
      clear hown hbel HH hrd
      go_wp2_with fail
      refine (blockAt_any _ _ _ _ _ R8.out hn hc1 hc2).mono ?_
      rintro e w8 m8
      rw [hno.out] at m8
      change Makes2 2 _ [] 4 _ _ at m8
      obtain ⟨p8, c8, rfl, -, -, b8⟩ := m8.get
      have H9 := Lib.hid (H8.out.still b8)
      have R9 := Lib.hid (R8.out.below b8)
      have O9 := Lib.hid (O1.out.below b8)
      clear m8 b8 H8 R8 O1 hno
      go_wp2_with fail
      refine (like_yes _ _ _ _ _ _ _ _ O9.out R9.out (by omega)).mono ?_
      rintro e w9 ⟨rfl, b9⟩
      have H8 := Lib.hid (H9.out.still b9)
      have R8 := Lib.hid (R9.out.below b9)
      clear b9 H9 R9 O9
      by_cases hseven : c0 = 7
      · have hne := hsev.out.1 hseven
        subst hseven
        obtain ⟨m, hm⟩ : ∃ m, s0.length = m + 1 := ⟨s0.length - 1, by have := List.length_pos_iff.2 hne; omega⟩
        rw [hm]
        go_wp2_with fail
        go_ret
        exact ⟨rfl, below_two B1.out H8.out.below⟩
      · have hemp : s0 = [] := by
          by_cases h : s0 = []
          · exact h
          · exact absurd (hsev.out.2 h) hseven
        subst hemp
        have t7 : (c0 == 7) = false := by simp [hseven]
        by_cases h0 : c0 = 0
        · subst h0
          have HI := Lib.hid (himg.out rfl)
          clear himg hsev hseven t7
          go_wp2_with fail
          refine (imageOf_any _ _ _ _ (H8.out.rd 3 rfl rfl) hrl (Own.cap (H8.out.get 3 rfl)).1 (Own.cap (H8.out.get 3 rfl)).2).mono ?_
          rintro e w10 m10
          rw [HI.out] at m10
          change Makes2 2 _ xs 0 _ _ at m10
          obtain ⟨p10, c10, rfl, -, r10, b10⟩ := m10.get
          have H9 := Lib.hid (H8.out.still b10)
          have R9 := Lib.hid (R8.out.below b10)
          have R10 := Lib.hid r10
          clear m10 b10 r10 H8 R8
          go_wp2_with fail
          refine (like_yes _ _ _ _ _ _ _ _ R10.out R9.out (by omega)).mono ?_
          rintro e w11 ⟨rfl, b11⟩
          have H8 := Lib.hid (H9.out.still b11)
          clear H9 b11
          go_wp2_with fail
          go_ret
          exact ⟨rfl, below_two B1.out H8.out.below⟩
        · have t0 : (c0 != 0) = true := by simp [h0]
          clear hseven h0 himg hsev
          go_wp2_with fail
          go_ret
          exact ⟨rfl, below_two B1.out H8.out.below⟩


end Go.Proofs.Ytckaknaeddiphaa.fnImagesRead
