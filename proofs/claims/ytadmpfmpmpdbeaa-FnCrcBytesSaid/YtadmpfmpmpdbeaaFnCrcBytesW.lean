/-
  The walk of laws.FnCrcBytes: at every input it returns true and writes nothing that was there.
-/
import Derived.Test.YtadmpfmpmpdbeaaRows
import Derived.Test.YtadmpfmpmpdbeaaC2t
import Derived.WalkKit
import Derived.ProofKit
import Derived.OpenShut
import Derived.ShutString
import Derived.ChangeOld
import Derived.Below
namespace Go.Proofs.Ytadmpfmpmpdbeaa.fnCrcBytes
open Go.ChangeShapes Go.WideShapes Go.ChangeAt Go.RowKit
open Go.ChangeMaps (open_string shut_string)
set_option linter.unusedVariables false


/-- WHAT THE WALK IS TOLD OF A SLICE OF INTEGERS THAT CAME IN: it is nil; or it leads to a row of 'cap' cells, the numbers 'zs' (the first 'len' are its elements, the rest its spare room), each fitting its kind. -/
def IsRow (k : IntKind) (w : World) (a : Option Addr) (len cap : Nat) (zs : List Int) : Prop :=
  (a = none ∧ len = 0 ∧ cap = 0 ∧ zs = []) ∨
  ∃ x, a = some x ∧ len ≤ cap ∧ cap ≤ maxLen ∧ zs.length = cap ∧ (∀ i, i < zs.length → w.cell? (x.add i) = some (.int k (zs.getD i 0))) ∧ ∀ n ∈ zs, (Lit.int k n).wf = true

/-! ### STEP 1: THE WALK: the Go text returns true, AND WRITES NOTHING THAT WAS THERE: 'Below w.heap.size w w'' (Derived/Below.lean: '.refl', '.alloc', '.drew', '.setCell' at a new block, '.trans'). Open each 'IsRow' by 'rcases' AHEAD of 'go_enter'; part every test ahead of the walk. -/
set_option maxHeartbeats 1000000 in
theorem walk (a0 : Option Addr) (len0 cap0 : Nat) (z0 : List Int) (w : World) (w0 : IsRow .u8 w a0 len0 cap0 z0) :
    Calls Try.prog 3 #[.slice a0 len0 cap0] w fun e w' => e = .returned (.bool true) ∧ Below w.heap.size w w' := by
  have hr := rdB_of_row w0
  clear w0
  generalize List.take len0 z0 = cs at hr
  have HR := Lib.hid hr; clear hr
  by_cases hbig : len0 ≤ 4096
  · go_enter Try.func3, Try.ntmps3
    go_wp2_with fail
    refine (big_no _ _ _ _ hbig).mono ?_
    rintro e w' ⟨rfl, rfl⟩
    go_wp2_with fail
    refine (drawCrcOfBytes_any _ _ _ cs _ HR.out (by omega)).mono ?_
    rintro e w1 ⟨wd, pl, s, v1, xs, rfl, o1, hxl, b1⟩
    obtain ⟨p1, c1, rfl, o1, -⟩ := o1.get
    have H : HeldC 2 25 w (w1.alloc (.cells #[.int .i64 wd, .int .i64 pl] 25)) w1.heap.size wd pl _ := HeldC.start o1 b1
    obtain ⟨C, hC⟩ : ∃ C, C = w1.heap.size := ⟨_, rfl⟩
    clear o1 b1
    obtain ⟨r0, r1, hF⟩ : ∃ r0 r1, crcOfBytes wd pl s xs = (r0, r1) := ⟨_, _, rfl⟩
    have HF := Lib.hid hF; clear hF
    obtain ⟨t0, t1, hT⟩ : ∃ t0 t1, crcTable wd pl = (t0, t1) := ⟨_, _, rfl⟩
    have htl : t0.length ≤ 8192 := by have h := crcTable_len wd pl; rw [hT] at h; exact h
    have HT := Lib.hid hT; clear hT
    obtain ⟨ic, hic⟩ : ∃ ic, isCrc wd pl = ic := ⟨_, rfl⟩
    have HIC := Lib.hid hic; clear hic
    go_wp2_with fail
    rw [← hC] at H ⊢
    clear hC
    refine (crcOfBytes_any _ _ _ _ _ xs _ (H.rd 0 rfl rfl) (by omega)).mono ?_
    rintro e w2 ⟨rfl, b2⟩
    rw [HF.out]
    replace H := H.still b2
    clear b2
    have hc0 := H.st.c0
    have hc1 := H.st.c1
    go_wp2_with fail
    clear hc0 hc1
    refine (sCrcOfBytes_any _ _ _ _ _ xs _ (H.rd 0 rfl rfl) (by omega)).mono ?_
    rintro e w3 ⟨rfl, b3⟩
    rw [HF.out]
    replace H := H.still b3
    clear b3
    have hc0 := H.st.c0
    have hc1 := H.st.c1
    go_wp2_with fail
    clear hc0 hc1
    refine (crcTable_any _ _ _).mono ?_
    rintro e w4 m4
    rw [HT.out] at m4
    change Makes2 2 _ t0 t1 _ _ at m4
    obtain ⟨p4, c4, rfl, o4, -, b4⟩ := m4.get
    replace H := H.make o4 b4
    clear o4 b4 m4
    have hc0 := H.st.c0
    have hc1 := H.st.c1
    go_wp2_with fail
    clear hc0 hc1
    refine (sCrcTable_any _ _ _).mono ?_
    rintro e w5 m5
    rw [HT.out] at m5
    change Makes2 2 _ t0 t1 _ _ at m5
    obtain ⟨p5, c5, rfl, o5, -, b5⟩ := m5.get
    replace H := H.make o5 b5
    clear o5 b5 m5
    go_upto_region 8 with fail
    have H5 := Lib.hid (H.still (Below.refl w5.heap.size w5).drew)
    clear H
    go_region_held3 (fun w' => w'.cell? ⟨C, 0, none⟩ = some (.int .i64 wd) ∧ w'.cell? ⟨C, 1, none⟩ = some (.int .i64 pl))
      (first | exact ⟨H5.out.st.c0, H5.out.st.c1⟩ | exact ⟨H6.out.st.c0, H6.out.st.c1⟩ | exact ⟨H7.out.st.c0, H7.out.st.c1⟩ | exact ⟨H8.out.st.c0, H8.out.st.c1⟩)
      (first
        | (go_at_call 22; (with_reducible refine (like_yes _ _ _ _ _ _ _ _ (H5.out.rd 1 rfl rfl) (H5.out.rd 0 rfl rfl) (by omega)).mono ?_); rintro e w6 ⟨rfl, b6⟩; have H6 := Lib.hid (H5.out.still b6); clear b6)
        | (go_at_call 23; (with_reducible refine (isCrc_any _ _ _).mono ?_); rintro e w7 ⟨rfl, b7⟩; rw [HIC.out]; have H7 := Lib.hid (H6.out.still b7); clear b7)
        | (go_at_call 24; (with_reducible refine (sIsCrc_any _ _ _).mono ?_); rintro e w8 ⟨rfl, b8⟩; rw [HIC.out]; have H8 := Lib.hid (H7.out.still b8); clear b8))
    have hxx : (ic != ic) = false := by simp
    by_cases hr1 : r1 = 0
    · subst hr1
      obtain ⟨hby, hcc, hcb, z, hz, hone⟩ := bytes_round' HF.out
      have hbb := bb_0 hby
      have hbys := (isBytes_iff.1 hby)
      obtain ⟨hbl, hbe⟩ := hbys
      have HBE := Lib.hid hbe; clear hbe
      have HCB := Lib.hid hcb; clear hcb
      have HZ := Lib.hid hz; clear hz
      have HONE := Lib.hid hone; clear hone
      have htab : t0 = crcTab wd pl 256 := by
        have h := HT.out
        rw [ct_0 hcc] at h
        exact (congrArg Prod.fst h).symm
      have HTAB := Lib.hid htab; clear htab hcc hby
      obtain ⟨bs, hbs⟩ : ∃ bs, bs = xs.flatMap (bitsOf · 8) := ⟨_, rfl⟩
      have hfl := flat_len xs
      rw [← hbs] at hfl hbb HCB
      have hbsl : bs.length ≤ 8192 := by omega
      have HBB := Lib.hid hbb; clear hbb hfl hbs
      go_wp2_with fail
      refine (bytesToBits_any _ _ xs _ (H8.out.rd 2 rfl rfl) (by omega)).mono ?_
      rintro e w9 m9
      rw [HBB.out] at m9
      change Makes2 2 _ bs 0 _ _ at m9
      obtain ⟨p9, c9, rfl, o9, -, b9⟩ := m9.get
      have H9 := Lib.hid (H8.out.make o9 b9)
      clear o9 b9 m9
      have hc0 := H9.out.st.c0
      have hc1 := H9.out.st.c1
      go_wp2_with fail
      clear hc0 hc1
      refine (crcOfBits_any _ _ _ _ _ bs _ (H9.out.rd 0 rfl rfl) (by omega)).mono ?_
      rintro e w10 ⟨rfl, b10⟩
      rw [HCB.out]
      have H10 := Lib.hid (H9.out.still b10)
      clear b10
      have hc0 := H10.out.st.c0
      have hc1 := H10.out.st.c1
      go_wp2_with fail
      clear hc0 hc1
      refine (crcOfBytes_any _ _ 0 _ _ xs _ (H10.out.rd 3 rfl rfl) (by omega)).mono ?_
      rintro e w11 ⟨rfl, b11⟩
      rw [HZ.out]
      have H11 := Lib.hid (H10.out.still b11)
      clear b11
      by_cases hn : xs.length = 1
      · obtain ⟨v, hv⟩ : ∃ v, v = (xs.getD 0 0).toNat := ⟨_, rfl⟩
        have hb0 := HBE.out (xs.getD 0 0) (getD_mem' (by omega))
        have hvI : xs.getD 0 0 = (v : Int) := by omega
        have hxs : xs = [(v : Int)] := by
          match xs, hn with
          | [a], _ => simpa using hvI
        have hv1 : v < 256 := by omega
        have hzz := HONE.out v hv1 hxs
        rw [← HTAB.out] at hzz
        have htl2 : t0.length = 256 := by rw [HTAB.out, crcTab_len]
        obtain ⟨b1, off1, hp1, hall1⟩ := (H11.out.rd 3 rfl rfl).here (by omega)
        obtain ⟨b2, off2, hp2, hall2⟩ := (H11.out.rd 1 rfl rfl).here (by omega)
        have hck1 := hall1 0 (by omega)
        have hck2 := hall2 v (by omega)
        rw [hvI] at hck1
        rw [← hzz] at hck2
        subst hp1
        subst hp2
        have hv0 : (0 : Int) ≤ (v : Int) := by omega
        have hv2 : (v : Int) < (t0.length : Int) := by omega
        have hv3 : (v : Int) < 256 := by omega
        have hn1 : ((xs.length : Int) != 1) = false := by simp [hn]
        have hn2 : (0 : Int) < (xs.length : Int) := by omega
        have hn3 : 0 < xs.length := by omega
        rw [Nat.add_zero] at hck1
        have HB := Lib.hid H11.out.below
        clear hall1 hall2 hvI hb0 hv hxs hzz hn htl2 H11
        go_wp2
        go_ret
        exact ⟨rfl, HB.out⟩
      · have hn1 : ((xs.length : Int) != 1) = true := by simp; omega
        clear hn
        go_wp2
        go_ret
        exact ⟨rfl, H11.out.below⟩
    · have t1' : (r1 != 0) = true := by simp [hr1]
      clear hr1
      go_wp2
      go_ret
      exact ⟨rfl, H8.out.below⟩
  · go_enter Try.func3, Try.ntmps3
    go_wp2_with fail
    refine (big_yes _ _ _ _ hbig).mono ?_
    rintro e w' ⟨rfl, rfl⟩
    go_wp2
    go_ret
    exact ⟨rfl, Below.refl _ _⟩


end Go.Proofs.Ytadmpfmpmpdbeaa.fnCrcBytes
