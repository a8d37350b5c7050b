/-
  The walk of laws.FnPlanTables: at every input it returns true and writes nothing that was there.
-/
import Derived.Test.YtbbodgeoenjdkaaRows
import Derived.Test.YtbbodgeoenjdkaaPl9
import Derived.Test.YtbbodgeoenjdkaaPlS6
import Derived.Test.YtbbodgeoenjdkaaPlF
import Derived.Test.YtbbodgeoenjdkaaPlG
import Derived.Test.YtbbodgeoenjdkaaPlI
import Derived.Test.YtbbodgeoenjdkaaPlH
import Derived.Test.YtbbodgeoenjdkaaPlJ
import Derived.Test.YtbbodgeoenjdkaaDrawB
import Derived.Test.YtbbodgeoenjdkaaDrawA
import Derived.WalkKit
import Derived.ProofKit
import Derived.OpenShut
import Derived.ShutString
import Derived.ChangeOld
import Derived.Below
namespace Go.Proofs.Ytbbodgeoenjdkaa.fnPlanTables
open Go.ChangeShapes Go.WideShapes Go.ChangeAt Go.RowKit
open Go.ChangeMaps (open_string shut_string)
set_option linter.unusedVariables false


/-- WHAT THE WALK IS TOLD OF A SLICE OF INTEGERS THAT CAME IN: it is nil; or it leads to a row of 'cap' cells, the numbers 'zs' (the first 'len' are its elements, the rest its spare room), each fitting its kind. -/
def IsRow (k : IntKind) (w : World) (a : Option Addr) (len cap : Nat) (zs : List Int) : Prop :=
  (a = none ∧ len = 0 ∧ cap = 0 ∧ zs = []) ∨
  ∃ x, a = some x ∧ len ≤ cap ∧ cap ≤ maxLen ∧ zs.length = cap ∧ (∀ i, i < zs.length → w.cell? (x.add i) = some (.int k (zs.getD i 0))) ∧ ∀ n ∈ zs, (Lit.int k n).wf = true

/-! ### STEP 1: THE WALK: the Go text returns true, AND WRITES NOTHING THAT WAS THERE: 'Below w.heap.size w w'' (Derived/Below.lean: '.refl', '.alloc', '.drew', '.setCell' at a new block, '.trans'). Open each 'IsRow' by 'rcases' AHEAD of 'go_enter'; part every test ahead of the walk. -/
set_option maxRecDepth 100000 in set_option maxHeartbeats 8000000 in set_option linter.unusedSimpArgs false in set_option linter.unusedVariables false in
theorem walk (a0 : Option Addr) (len0 cap0 : Nat) (z0 : List Int) (w : World) (w0 : IsRow .u8 w a0 len0 cap0 z0) :
    Calls Try.prog 4 #[.slice a0 len0 cap0] w fun e w' => e = .returned (.bool true) ∧ Below w.heap.size w w' := by
  have hr := rdB_of_row w0
  clear w0
  generalize List.take len0 z0 = cs at hr
  have HR := Lib.hid hr; clear hr
  by_cases hbig : len0 ≤ 4096
  rotate_left
  · go_enter Try.func4, Try.ntmps4
    go_wp2_with fail
    refine (big_yes _ _ _ _ hbig).mono ?_
    rintro e w' ⟨rfl, rfl⟩
    go_wp2
    go_ret
    exact ⟨rfl, Below.refl _ _⟩
  go_enter Try.func4, Try.ntmps4
  go_wp2_with fail
  refine (big_no _ _ _ _ hbig).mono ?_
  rintro e w' ⟨rfl, rfl⟩
  go_wp2_with fail
  refine (drawPlanTable_any _ _ _ cs _ HR.out (by omega)).mono ?_
  rintro e w1 ⟨v, t, R, S, bo, m, c2, bs, rfl, oT, hl, rB, hm1, hm2, b1⟩
  obtain ⟨pT, cT, rfl, -, rT⟩ := oT.get
  have HT := Lib.hid rT; have HB1 := Lib.hid b1; have HK := Lib.hid rB
  have htl : t.length ≤ 1048576 := by omega
  clear oT b1 rT rB HR
  obtain ⟨q, c, hF⟩ : ∃ q c, planTable t R S bs = (q, c) := ⟨_, _, rfl⟩
  have HQ := Lib.hid (fun (h : c = 0) => table_use (show planTable t R S bs = (q, 0) from by rw [hF, h]))
  have HTI := Lib.hid (tabIs hF)
  obtain ⟨ad, hAD⟩ : ∃ a, areDms t = a := ⟨_, rfl⟩
  have HAD := Lib.hid hAD
  obtain ⟨ap, hAP⟩ : ∃ a, arePossible t R S bs = a := ⟨_, rfl⟩
  have HAP := Lib.hid hAP
  clear hAD hAP
  have HF := Lib.hid hF; clear hF
  go_wp2_with fail
  refine (planTableI_any _ _ _ _ _ _ _ _ _ _ _ HT.out (by omega) HK.out).mono ?_
  rintro e w2 m2
  rw [HF.out] at m2
  obtain ⟨p2, k2, s2, hs2, rfl, -, r2, b2⟩ := m2.get
  have HB2 := Lib.hid (below_two HB1.out b2); have HT2 := Lib.hid (HT.out.below b2); have HK2 := Lib.hid (HK.out.below b2)
  have H2 := Lib.hid r2
  clear m2 b2 r2 HT HB1 HK
  go_wp2_with fail
  refine (planTableS_any _ _ _ _ _ _ _ _ _ _ _ HT2.out htl HK2.out).mono ?_
  rintro e w3 m3
  rw [HF.out] at m3
  obtain ⟨p3, k3, s3, hs3, rfl, -, r3, b3⟩ := m3.get
  have HB3 := Lib.hid (below_two HB2.out b3); have HT3 := Lib.hid (HT2.out.below b3); have HK3 := Lib.hid (HK2.out.below b3)
  have H3 := Lib.hid r3; have H2' := Lib.hid (H2.out.below b3)
  clear m3 b3 r3 HT2 HB2 HK2 H2
  change rwx s2 = q at hs2
  change rwx s3 = q at hs3
  have hlen : s2.length = s3.length := by rw [← rwx_len s2, ← rwx_len s3, hs2, hs3]
  have hcc : (c != c) = false := by simp
  have hll : ((s3.length : Int) != (s3.length : Int)) = false := by simp
  rw [hlen]
  rw [hlen] at H2'
  go_wp2_with fail
  refine (arePossibleI_any _ _ _ _ _ _ _ _ _ _ _ HT3.out (by omega) HK3.out).mono ?_
  rintro e w4 ⟨rfl, b4⟩
  rw [HAP.out]
  have HB4 := Lib.hid (below_two HB3.out b4); have HT4 := Lib.hid (HT3.out.below b4); have HK4 := Lib.hid (HK3.out.below b4)
  have H34 := Lib.hid (H3.out.below b4); have H24 := Lib.hid (H2'.out.below b4)
  clear b4 HT3 HB3 HK3 H3 H2'
  go_wp2_with fail
  refine (arePossibleS_any _ _ _ _ _ _ _ _ _ _ _ HT4.out htl HK4.out).mono ?_
  rintro e w5 ⟨rfl, b5⟩
  rw [HAP.out]
  have HB5 := Lib.hid (below_two HB4.out b5); have HT5 := Lib.hid (HT4.out.below b5)
  have H35 := Lib.hid (H34.out.below b5); have H25 := Lib.hid (H24.out.below b5)
  clear b5 HT4 HB4 HK4 H34 H24
  have hpp : (ap != ap) = false := by cases ap <;> rfl
  go_wp2_with fail
  refine (areDmsI_any _ _ _ _ _ HT5.out (by omega)).mono ?_
  rintro e w6 ⟨rfl, b6⟩
  rw [HAD.out]
  have HB6 := Lib.hid (below_two HB5.out b6); have HT6 := Lib.hid (HT5.out.below b6)
  have H36 := Lib.hid (H35.out.below b6); have H26 := Lib.hid (H25.out.below b6)
  clear b6 HT5 HB5 H35 H25
  go_wp2_with fail
  refine (areDmsS_any _ _ _ _ _ HT6.out (by omega)).mono ?_
  rintro e w7 ⟨rfl, b7⟩
  rw [HAD.out]
  have HB7 := Lib.hid (below_two HB6.out b7); have HT7 := Lib.hid (HT6.out.below b7)
  have H37 := Lib.hid (H36.out.below b7); have H27 := Lib.hid (H26.out.below b7)
  clear b7 HT6 HB6 H36 H26
  have hdd : (ad != ad) = false := by cases ad <;> rfl
  go_upto_region 9 with (at_make; refine make_cap _ rfl _ _ rfl w7.heap.size Try.underlying45 info64 _ _ _ _ (t.length + 1) (t.length + 1) rfl rfl (by omega) (by omega) (by omega) (by omega) (Nat.le_refl _) ?_; intro w8 o8 b8)
  have HC := Lib.hid (CSt.start o8 b8)
  clear o8 b8
  have hql : q.length = s3.length := by rw [← hs3, rwx_len]
  have HX := Lib.hid (fun r (h : r < s3.length) => (rwOf_x (rs := s2) (by omega)).trans (show (rwx s2).getD r [] = q.getD r [] by rw [hs2]))
  have HY := Lib.hid (fun r (h : r < s3.length) => (rwOf_x (rs := s3) h).trans (show (rwx s3).getD r [] = q.getD r [] by rw [hs3]))
  have hql8 : s3.length ≤ 8 := by have := HTI.out.len; omega
  clear hlen hs2 hs3
  go_wp2
  go_loopw [12] (fun i wr => ∃ (r : Nat), i = .int .i64 (r : Int) ∧ r ≤ s3.length ∧ Hid (CSt w7 wr t.length (doneC q r 0))) (fun i _ => s3.length - (intOf i).toNat)
  case atStart => exact ⟨0, rfl, Nat.zero_le _, by rw [doneC_start]; exact HC.out⟩
  case round =>
    clear HC
    obtain ⟨r, rfl, hr, HC⟩ := hrel
    by_cases hlt : r < s3.length
    · have hmem := getD_memR (q := q) (r := r) (by omega)
      obtain ⟨hrow, hcells⟩ := HTI.out.rows _ hmem
      have HEND := Lib.hid (doneC_row (q := q) (r := r) (by omega))
      have HSTEP := Lib.hid (fun k (h : k < (q.getD r []).length) => doneC_cell h)
      have HLEN := Lib.hid (fun k => doneC_len (fun row h => (HTI.out.rows row h).1) r k)
      obtain ⟨b2, f2, rfl, hb2, c2', rr2⟩ := H27.out.at hlt
      obtain ⟨b3, f3, rfl, hb3, c3', rr3⟩ := H37.out.at hlt
      have hx2 := HX.out r hlt
      have hx3 := HY.out r hlt
      generalize rwOf s2 r = u2 at c2' rr2 hx2
      generalize rwOf s3 r = u3 at c3' rr3 hx3
      obtain ⟨x2, a2, n2⟩ := u2
      obtain ⟨x3, a3, n3⟩ := u3
      dsimp only at hx2 hx3 c2' c3'
      subst hx2
      subst hx3
      obtain ⟨rd2, hle2, hcap2⟩ := rr2
      obtain ⟨rd3, hle3, hcap3⟩ := rr3
      dsimp only at rd2 hle2 hcap2 rd3 hle3 hcap3
      clear hmem
      generalize q.getD r [] = row at *
      have HC2 := Lib.hid (fun W (hb : Below w7.heap.size w7 W) => And.intro ((hb.cell (p := ⟨b2, f2 + r, none⟩) hb2).trans c2') (rd2.below hb))
      have HC3 := Lib.hid (fun W (hb : Below w7.heap.size w7 W) => And.intro ((hb.cell (p := ⟨b3, f3 + r, none⟩) hb3).trans c3') (rd3.below hb))
      clear c2' c3' rd2 rd3
      have HCELLS := Lib.hid hcells
      clear hcells
      obtain ⟨q2, R2⟩ := HC2.out wr HC.out.below
      obtain ⟨q3, R3⟩ := HC3.out wr HC.out.below
      have HR2 := Lib.hid R2; have HR3 := Lib.hid R3
      have HCD := Lib.hid (fun k => HC.out.still (below_drewN' (Below.refl _ _) k))
      clear R2 R3 HC
      go_wp2
      go_quiet ((go_at_call 27; exact like_quiet _ _ _ _ _ _ row _ HR2.out HR3.out (by omega)))
      go_wp2
      go_loopw [13] (fun j wk => ∃ (k : Nat), j = .int .i64 (k : Int) ∧ k ≤ row.length ∧ Hid (CSt w7 wk t.length (doneC q r k))) (fun j _ => row.length - (intOf j).toNat)
      case atStart => exact ⟨0, rfl, Nat.zero_le _, HCD.out _⟩
      case round =>
        clear HCD q2 q3 HR2 HR3
        obtain ⟨k, rfl, hk, HCK⟩ := hrel
        obtain ⟨q3, rd⟩ := HC3.out _ HCK.out.below
        by_cases hkl : k < row.length
        · obtain ⟨bx, fx, rfl, hat⟩ := rd.here (by omega)
          have hck := hat k hkl
          have hcb := HCELLS.out (row.getD k 0) (getD_memS hkl)
          have hst := HSTEP.out k hkl
          have hln := HLEN.out k
          clear hat rd
          generalize row.getD k 0 = v at hck hcb hst
          obtain ⟨u, hu⟩ : ∃ u : Nat, v + 1 = (u : Int) := ⟨(v + 1).toNat, by omega⟩
          have hun : u ≤ t.length := by omega
          have hcu := HCK.out.cell hun
          have hg := HCK.out.get u
          obtain ⟨f0, HN⟩ := HCK.out.add hu hun (by omega)
          rw [hst] at HN
          generalize (cntL t.length (doneC q r k)).getD u 0 = y at hcu hg HN
          obtain rfl : v = (u : Int) - 1 := by omega
          have HN' := Lib.hid HN
          clear HN HCK hst hln hu
          obtain ⟨hg0, hg1⟩ := hg
          obtain ⟨hcb0, hcb1⟩ := hcb
          go_wp2
          go_roundw
          case rel => exact ⟨k + 1, by go_num, by omega, HN'.out⟩
          case measure => simp [intOf]; omega
        · have hke : k = row.length := by omega
          subst hke
          have HE := Lib.hid (HCK.out)
          rw [HEND.out] at HE
          clear hkl rd
          go_wp2
          go_roundw
          case rel => exact ⟨r + 1, by go_num, by omega, HE.out⟩
          case measure => simp [intOf]; omega
    · have hre : r = s3.length := by omega
      subst hre
      have HE := Lib.hid HC.out
      rw [← hql, doneC_all] at HE
      have HBF := Lib.hid (below_two HB7.out HE.out.below)
      clear HC hlt
      by_cases hc : c = 0
      rotate_left
      · have hne : (c != 0) = true := by simpa using hc
        clear hc
        go_wp2
        go_ret
        exact ⟨rfl, HBF.out⟩
      have HU := Lib.hid (HQ.out hc)
      subst hc
      clear HQ HF
      go_wp2
      go_loopw [14] (fun i wk => ∃ (j : Nat), i = .int .i64 (j : Int) ∧ j ≤ t.length ∧ Hid (CSt w7 wk t.length q.flatten)) (fun i _ => t.length - (intOf i).toNat)
      case atStart => exact ⟨0, rfl, Nat.zero_le _, HE.out⟩
      case round =>
        clear HE HBF
        obtain ⟨j, rfl, hj, HC⟩ := hrel
        by_cases hjl : j < t.length
        · have hcx := HC.out.cell (u := j + 1) (by omega)
          rw [HU.out.count j hjl] at hcx
          have he := isPow_iff.1 (demands_pow HU.out.ok.dm j hjl)
          have hR := isPow_iff.1 HU.out.ok.R
          have HRD := Lib.hid (HT7.out.below HC.out.below)
          obtain ⟨bd, fd, rfl, hbd, x0, x1, x2⟩ := HRD.out.at hjl
          generalize dmOf t j = d at hcx he x0 x1 x2
          obtain ⟨d0, d1, d2⟩ := d
          dsimp only at hcx he x0 x1 x2
          have hd0 : (d1 == 0) = false := by simp; omega
          have hdn : d1 ≠ 0 := by omega
          have hd1 : 1 ≤ d1 := by omega
          have hd8 : d1 ≤ 8 := by omega
          have hR1 : 1 ≤ R := by omega
          have hR8 : R ≤ 8 := by omega
          have HCD := Lib.hid (fun k => HC.out.still (below_drewN' (Below.refl _ _) k))
          rw [Int.tdiv_eq_ediv_of_nonneg (by omega)] at hcx
          have hxx : (R / d1 != R / d1) = false := by simp
          clear he hR
          go_wp2
          go_quiet (fail)
          go_wp2
          go_roundw
          case rel => exact ⟨j + 1, by go_num, by omega, HCD.out _⟩
          case measure => simp [intOf]; omega
        · have hR := isPow_iff.1 HU.out.ok.R
          have hS0 := HU.out.ok.S0
          have hS1 := HU.out.ok.S1
          have hm : 0 ≤ R * S ∧ R * S ≤ 128 := by rcases hR with rfl | rfl | rfl | rfl <;> omega
          have hw : wrap64 (R * S) = R * S := by generalize R * S = z at hm ⊢; unfold wrap64; omega
          have hwk : IntKind.i64.wrap (R * S) = R * S := by generalize R * S = z at hm ⊢; rw [IntKind.wrap_i64]; omega
          have HL := Lib.hid HC.out.list
          have HRC := Lib.hid HC.out.rd
          have HS := Lib.hid HU.out.sum
          have HBF := Lib.hid (below_two HB7.out HC.out.below)
          clear hR hS0 hS1 hm
          go_wp2_with fail
          refine (sumSmall_any _ _ _ _ _ HRC.out (by omega) HL.out).mono ?_
          rintro e w9 ⟨rfl, rfl⟩
          rw [HS.out]
          go_wp2
          go_ret
          exact ⟨by simp [hw, hwk], HBF.out⟩


end Go.Proofs.Ytbbodgeoenjdkaa.fnPlanTables
