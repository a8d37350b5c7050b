/-
  The walk of laws.FnPlanned: at every input it returns true and writes nothing that was there.
-/
import Derived.Test.YtbbodgeoenjdkaaRows
import Derived.Test.YtbbodgeoenjdkaaPl9
import Derived.Test.YtbbodgeoenjdkaaPlS6
import Derived.Test.YtbbodgeoenjdkaaSmT
import Derived.Test.YtbbodgeoenjdkaaDrawB
import Derived.WalkKit
import Derived.ProofKit
import Derived.OpenShut
import Derived.ShutString
import Derived.ChangeOld
import Derived.Below
namespace Go.Proofs.Ytbbodgeoenjdkaa.fnPlanned
open Go.ChangeShapes Go.WideShapes Go.ChangeAt Go.RowKit
open Go.ChangeMaps (open_string shut_string)
set_option linter.unusedVariables false


/-- WHAT THE WALK IS TOLD OF A SLICE OF INTEGERS THAT CAME IN: it is nil; or it leads to a row of 'cap' cells, the numbers 'zs' (the first 'len' are its elements, the rest its spare room), each fitting its kind. -/
def IsRow (k : IntKind) (w : World) (a : Option Addr) (len cap : Nat) (zs : List Int) : Prop :=
  (a = none ∧ len = 0 ∧ cap = 0 ∧ zs = []) ∨
  ∃ x, a = some x ∧ len ≤ cap ∧ cap ≤ maxLen ∧ zs.length = cap ∧ (∀ i, i < zs.length → w.cell? (x.add i) = some (.int k (zs.getD i 0))) ∧ ∀ n ∈ zs, (Lit.int k n).wf = true

/-! ### STEP 1: THE WALK: the Go text returns true, AND WRITES NOTHING THAT WAS THERE: 'Below w.heap.size w w'' (Derived/Below.lean: '.refl', '.alloc', '.drew', '.setCell' at a new block, '.trans'). Open each 'IsRow' by 'rcases' AHEAD of 'go_enter'; part every test ahead of the walk. -/
set_option maxRecDepth 100000 in set_option maxHeartbeats 8000000 in set_option linter.unusedSimpArgs false in set_option linter.unusedVariables false in
theorem walk (a0 : Option Addr) (len0 cap0 : Nat) (z0 : List Int) (w : World) (w0 : IsRow .u8 w a0 len0 cap0 z0) :
    Calls Try.prog 3 #[.slice a0 len0 cap0] w fun e w' => e = .returned (.bool true) ∧ Below w.heap.size w w' := by
  have hr := rdB_of_row w0
  clear w0
  generalize List.take len0 z0 = cs at hr
  have HR := Lib.hid hr; clear hr
  by_cases hbig : len0 ≤ 4096
  rotate_left
  · go_enter Try.func3, Try.ntmps3
    go_wp2_with fail
    refine (big_yes _ _ _ _ hbig).mono ?_
    rintro e w' ⟨rfl, rfl⟩
    go_wp2
    go_ret
    exact ⟨rfl, Below.refl _ _⟩
  go_enter Try.func3, Try.ntmps3
  go_wp2_with fail
  refine (big_no _ _ _ _ hbig).mono ?_
  rintro e w' ⟨rfl, rfl⟩
  go_wp2_with fail
  refine (drawPlanDemands_any _ _ _ cs _ HR.out (by omega)).mono ?_
  rintro e w1 ⟨v, t, R, S, rfl, oT, hl, b1⟩
  obtain ⟨pT, cT, rfl, oT, rT⟩ := oT.get
  have HFA := Lib.hid (OwnDm.formA oT)
  have HT := Lib.hid rT; have HB1 := Lib.hid b1
  have htl : t.length ≤ 1048576 := by omega
  clear oT b1 rT HR
  obtain ⟨l, c, hF⟩ : ∃ l c, planDemands t R S = (l, c) := ⟨_, _, rfl⟩
  have HPO := Lib.hid (fun (h : c = 0) => plan_possible (show planDemands t R S = (l, 0) by rw [hF, h]))
  have HPC := Lib.hid (fun (h : c = 0 ∨ c = 4) => plan_code hF h)
  have hll : l.length ≤ 1048576 := by have := planDemands_small t R S; rw [hF] at this; exact this
  have HF := Lib.hid hF; clear hF
  obtain ⟨u, d, hG⟩ : ∃ u d, sortDemands t = (u, d) := ⟨_, _, rfl⟩
  have hul : u.length ≤ 1048576 := by have := sortDemands_small t; rw [hG] at this; exact this
  have HSP := Lib.hid (show ∀ i j, i < j → j < u.length → (dmOf u i).every ≤ (dmOf u j).every from sorted_pair hG)
  have HG := Lib.hid hG; clear hG
  obtain ⟨ld, dl, hL⟩ : ∃ a b, loadOf t = (a, b) := ⟨_, _, rfl⟩
  have HLD := Lib.hid hL; clear hL
  go_wp2_with fail
  refine (planDemandsI_any _ _ _ _ _ _ _ HT.out (by omega)).mono ?_
  rintro e w2 m2
  rw [HF.out] at m2
  obtain ⟨p2, k2, rfl, -, r2, b2⟩ := m2.get
  have HB2 := Lib.hid (below_two HB1.out b2); have HT2 := Lib.hid (HT.out.below b2)
  have H2 := Lib.hid (show RdBk w2 p2 l.length l from r2)
  clear m2 b2 r2 HT HB1
  go_wp2_with fail
  refine (planDemandsS_any _ _ _ _ _ _ _ HT2.out htl).mono ?_
  rintro e w3 m3
  rw [HF.out] at m3
  obtain ⟨p3, k3, rfl, -, r3, b3⟩ := m3.get
  have HB3 := Lib.hid (below_two HB2.out b3); have HT3 := Lib.hid (HT2.out.below b3)
  have H3 := Lib.hid (show RdBk w3 p3 l.length l from r3); have H23 := Lib.hid (H2.out.below b3)
  clear m3 b3 r3 HT2 HB2 H2
  have hcc : (c != c) = false := by simp
  have hlln : ((l.length : Int) != (l.length : Int)) = false := by simp
  dsimp only
  go_wp2
  go_loopw [10] (fun i wr => ∃ k : Nat, i = .int .i64 (k : Int) ∧ k ≤ l.length ∧ Hid (Below w3.heap.size w3 wr)) (fun i _ => l.length - (intOf i).toNat)
  case atStart => exact ⟨0, rfl, Nat.zero_le _, Below.refl _ _⟩
  case round =>
    obtain ⟨k, rfl, hk, HW⟩ := hrel
    by_cases hlt : k < l.length
    · obtain ⟨b2, f2, rfl, hb2, in2⟩ := (H23.out.below HW.out).at hlt
      obtain ⟨b3, f3, rfl, hb3, in3⟩ := (H3.out.below HW.out).at hlt
      generalize bkOf l k = x at in2 in3
      obtain ⟨x0, x1⟩ := x
      obtain ⟨c0, c1⟩ := in2
      obtain ⟨d0, d1⟩ := in3
      dsimp only at c0 c1 d0 d1
      have hne := bk_neq x0 x1
      have HBD := Lib.hid (fun n => below_drewN' HW.out n)
      clear hlln hcc
      go_wp2
      go_quiet (fail)
      go_wp2
      go_roundw
      case rel => exact ⟨k + 1, by go_num, by omega, HBD.out _⟩
      case measure => simp [intOf]; omega
    · have hke : k = l.length := by omega
      subst hke
      clear hlt hk
      go_upto_region 13 with fail
      go_cut [78] (fun s78 wx => ∃ wy, wy = wx ∧ s78 = .bool false ∧ Hid (Below w3.heap.size w3 wy))
      case first =>
        by_cases hc : c = 0
        · have HPOO := Lib.hid (HPO.out hc)
          subst hc
          go_wp2_with fail
          refine (arePossibleI_any _ _ _ _ _ _ _ _ _ _ _ (HT3.out.below HW.out) (by omega) (H23.out.below HW.out)).mono ?_
          rintro e w4 ⟨rfl, b4⟩
          rw [HPOO.out]
          have HW4 := Lib.hid (below_two HW.out b4)
          clear b4
          go_wp2_with fail
          go_meet
          exact ⟨_, rfl, rfl, HW4.out⟩
        · have hne : (c == 0) = false := by simp [hc]
          clear hc
          go_wp2_with fail
          go_meet
          exact ⟨_, rfl, rfl, HW.out⟩
      case rest =>
      clear HW
      obtain ⟨w4, rfl, rfl, HW⟩ := hcut
      have HT4 := Lib.hid (HT3.out.below HW.out); have HB4 := Lib.hid (below_two HB3.out HW.out)
      clear HT3 HB3 H3 H23 HW hlln HPO
      go_wp2_with fail
      refine (sortDemandsI_any _ _ _ _ _ HT4.out htl HFA.out).mono ?_
      rintro e w5 m5
      rw [HG.out] at m5
      obtain ⟨p5, k5, rfl, -, r5, b5⟩ := m5.get
      have HB5 := Lib.hid (below_two HB4.out b5); have HT5 := Lib.hid (HT4.out.below b5)
      have H5 := Lib.hid (show RdDm w5 p5 u.length u from r5)
      clear m5 b5 r5 HT4 HB4
      go_wp2_with fail
      refine (sortDemandsS_any _ _ _ _ _ HT5.out htl).mono ?_
      rintro e w6 m6
      rw [HG.out] at m6
      obtain ⟨p6, k6, rfl, -, r6, b6⟩ := m6.get
      have HB6 := Lib.hid (below_two HB5.out b6); have HT6 := Lib.hid (HT5.out.below b6)
      have H6 := Lib.hid (show RdDm w6 p6 u.length u from r6); have H56 := Lib.hid (H5.out.below b6)
      clear m6 b6 r6 HT5 HB5 H5
      dsimp only
      go_wp2_with fail
      refine (loadOfI_any _ _ _ _ _ HT6.out (by omega)).mono ?_
      rintro e w7 ⟨rfl, b7⟩
      rw [HLD.out]
      have HB7 := Lib.hid (below_two HB6.out b7); have HT7 := Lib.hid (HT6.out.below b7)
      have H67 := Lib.hid (H6.out.below b7); have H57 := Lib.hid (H56.out.below b7)
      clear b7 HT6 HB6 H6 H56
      dsimp only
      have hdd : (d != d) = false := by simp
      have huu : ((u.length : Int) != (u.length : Int)) = false := by simp
      go_wp2
      go_loopw [17] (fun i wr => ∃ k : Nat, i = .int .i64 (k : Int) ∧ k ≤ u.length ∧ Hid (Below w7.heap.size w7 wr)) (fun i _ => u.length - (intOf i).toNat)
      case atStart => exact ⟨0, rfl, Nat.zero_le _, Below.refl _ _⟩
      case round =>
        obtain ⟨k, rfl, hk, HW⟩ := hrel
        by_cases hlt : k < u.length
        · obtain ⟨b5, f5, rfl, hb5, in5⟩ := (H57.out.below HW.out).at hlt
          obtain ⟨b6, f6, rfl, hb6, in6⟩ := (H67.out.below HW.out).at hlt
          have HBD := Lib.hid (fun n => below_drewN' HW.out n)
          clear huu hdd hcc
          by_cases hk0 : k = 0
          · subst hk0
            generalize dmOf u 0 = x at in5 in6
            obtain ⟨x0, x1, x2⟩ := x
            obtain ⟨c0, c1, c2⟩ := in5
            obtain ⟨d0, d1, d2⟩ := in6
            dsimp only at c0 c1 c2 d0 d1 d2
            have hne := dm_neq x0 x1 x2
            simp only [Nat.zero_mul, Nat.add_zero] at c0 c1 c2 d0 d1 d2
            go_wp2
            go_quiet (fail)
            go_wp2
            go_roundw
            case rel => exact ⟨1, rfl, by omega, HBD.out _⟩
            case measure => simp [intOf]; omega
          · obtain ⟨q, hq⟩ : ∃ q, k = q + 1 := ⟨k - 1, by omega⟩
            obtain ⟨b7, f7, e7, hb7, in7⟩ := (H57.out.below HW.out).at (i := q) (by omega)
            cases e7
            have hle := HSP.out q k (by omega) hlt
            have hd : decide ((0 : Int) < (k : Int)) = true := decide_eq_true (by omega)
            have hkp : (0 : Int) < (k : Int) := by omega
            have hkn : 0 < k := by omega
            have hdn : decide (0 < k) = true := decide_eq_true hkn
            have e1 : (k : Int) - 1 = (q : Int) := by omega
            have ew : IntKind.i64.wrap ((k : Int) - 1) = (q : Int) := by rw [IntKind.wrap_i64]; omega
            have ew2 : IntKind.i64.wrap (q : Int) = (q : Int) := by rw [IntKind.wrap_i64]; omega
            have g0 : (0 : Int) ≤ (q : Int) := by omega
            have g1 : (q : Int) < (u.length : Int) := by omega
            have g2 : q < u.length := by omega
            generalize dmOf u k = x at in5 in6 hle
            generalize dmOf u q = y at in7 hle
            obtain ⟨x0, x1, x2⟩ := x
            obtain ⟨y0, y1, y2⟩ := y
            obtain ⟨c0, c1, c2⟩ := in5
            obtain ⟨d0, d1, d2⟩ := in6
            obtain ⟨a0', a1', a2'⟩ := in7
            dsimp only at c0 c1 c2 d0 d1 d2 a0' a1' a2' hle
            have hne := dm_neq x0 x1 x2
            have hnl : decide (x1 < y1) = false := decide_eq_false (by omega)
            have hnl2 : ¬ x1 < y1 := by omega
            clear hq
            go_wp2
            go_quiet (fail)
            go_wp2
            go_roundw
            case rel => exact ⟨k + 1, by go_num, by omega, HBD.out _⟩
            case measure => simp [intOf]; omega
        · have hke : k = u.length := by omega
          subst hke
          have HB8 := Lib.hid (below_two HB7.out HW.out); have HT8 := Lib.hid (HT7.out.below HW.out); have H58 := Lib.hid (H57.out.below HW.out)
          clear hlt hk HW HB7 HT7 H67 H57 huu hdd
          go_upto_region 25 with fail
          go_cut [142] (fun s142 wx => ∃ wy, wy = wx ∧ s142 = .bool (decide (c ≠ 0 ∧ c ≠ 4)) ∧ wy = wr)
          case first =>
            by_cases hc : c = 0
            · subst hc
              go_wp2_with fail
              go_meet
              exact ⟨_, rfl, by simp, rfl⟩
            · have hne : (c != 0) = true := by simpa using hc
              by_cases hc4 : c = 4
              · subst hc4
                go_wp2_with fail
                go_meet
                exact ⟨_, rfl, by simp, rfl⟩
              · have hne4 : (c != 4) = true := by simpa using hc4
                have hdt : decide (c ≠ 0 ∧ c ≠ 4) = true := decide_eq_true ⟨hc, hc4⟩
                have HDT := Lib.hid hdt
                clear hc hc4 hdt
                go_wp2_with fail
                go_meet
                exact ⟨_, rfl, by rw [HDT.out], rfl⟩
          case rest =>
          obtain ⟨w9, rfl, rfl, rfl⟩ := hcut
          by_cases hcz : c ≠ 0 ∧ c ≠ 4
          · have hdt : decide (c ≠ 0 ∧ c ≠ 4) = true := decide_eq_true hcz
            rw [hdt]
            clear hcz hdt
            go_wp2
            go_ret
            exact ⟨rfl, HB8.out⟩
          have hdt : decide (c ≠ 0 ∧ c ≠ 4) = false := decide_eq_false hcz
          have hpc := HPC.out (by omega)
          rw [hdt]
          clear hcz hdt
          have hok := okPl hpc
          have HSL := Lib.hid (sorted_law hpc)
          have hue : u = plSorted t ∧ d = 0 := by
            have h := HG.out
            unfold sortDemands at h
            rw [if_neg (by rw [hok.dm]; decide)] at h
            exact ⟨(congrArg Prod.fst h).symm, (congrArg Prod.snd h).symm⟩
          have hle : ld = plLoad t ∧ dl = 0 := by
            have h := HLD.out
            unfold loadOf at h
            rw [if_neg (by rw [hok.dm]; decide)] at h
            exact ⟨(congrArg Prod.fst h).symm, (congrArg Prod.snd h).symm⟩
          obtain ⟨hu, rfl⟩ := hue
          obtain ⟨hld, rfl⟩ := hle
          have hS0 := hok.S0
          have hS1 := hok.S1
          have hR := isPow_iff.1 hok.R
          have hlen := areDms_len hok.dm
          have HDM := Lib.hid (fun i (hi : i < t.length) => isPow_iff.1 (demands_pow hok.dm i hi))
          have hl0 := (plLoad_le hok.dm t.length (Nat.le_refl _))
          rw [List.take_of_length_le (Nat.le_refl _), ← hld] at hl0
          rw [← hu, ← hld] at HSL
          clear hu hld hpc hok HG HLD HPC HF
          obtain ⟨f, hf⟩ : ∃ f, (planDemands u R S).2 = f := ⟨_, rfl⟩
          have HPD := Lib.hid (planDemandsI_any p5 u.length k5 u R S w9 H58.out (by omega))
          rw [hf] at HSL
          have HFF := Lib.hid hf
          clear hf
          go_wp2_with fail
          refine HPD.out.mono ?_
          rintro e w10 m10
          rw [HFF.out] at m10
          obtain ⟨p10, k10, rfl, -, -, b10⟩ := m10.get
          have HB10 := Lib.hid (below_two HB8.out b10); have HT10 := Lib.hid (HT8.out.below b10)
          clear m10 b10 HB8 HT8 H58 HPD HFF
          generalize (planDemands u R S).1.length = l10
          go_wp2
          go_loop [20, 21] (fun s20 s21 => ∃ (i : Nat) (m : Int), s20 = .int .i64 m ∧ s21 = .int .i64 (i : Int) ∧ i ≤ t.length ∧ 1 ≤ m ∧ m ≤ 8 ∧ Hid (mostE (t.take i) = m)) (fun _ s21 => t.length - (intOf s21).toNat)
          case atStart => exact ⟨0, 1, rfl, rfl, Nat.zero_le _, by omega, by omega, rfl⟩
          case round =>
            obtain ⟨i, m, rfl, rfl, hi, hm1, hm8, HM⟩ := hrel
            by_cases hlt : i < t.length
            · obtain ⟨b8, f8, rfl, hb8, in8⟩ := HT10.out.at hlt
              have hdm := HDM.out i hlt
              have hmx : mostE (t.take (i + 1)) = max m (dmOf t i).every := by
                have h := HM.out
                unfold mostE at h ⊢
                rw [List.take_add_one, List.getElem?_eq_getElem hlt, List.foldl_append, h, dmOf_get hlt]
                rfl
              generalize dmOf t i = x at in8 hdm hmx
              obtain ⟨x0, x1, x2⟩ := x
              obtain ⟨c0, c1, c2⟩ := in8
              dsimp only at c0 c1 c2 hdm hmx
              have HMX := Lib.hid hmx
              have hx1 : 1 ≤ x1 := by omega
              have hx8 : x1 ≤ 8 := by omega
              have HBD := Lib.hid (show 1 ≤ max m x1 ∧ max m x1 ≤ 8 by omega)
              clear hmx hdm hcc
              go_wp2
              go_round
              case rel => exact ⟨i + 1, max m x1, by rw [show (if m < x1 then x1 else m) = max m x1 from by split <;> omega], by go_num, by omega, HBD.out.1, HBD.out.2, HMX.out⟩
              case measure => simp [intOf]; omega
            · have hie : i = t.length := by omega
              subst hie
              rw [List.take_of_length_le (Nat.le_refl _)] at HM
              have hsl := HSL.out
              rw [HM.out] at hsl
              have hw : wrap64 (8 * S) = 8 * S := by unfold wrap64; omega
              clear hlt hi HDM hcc
              by_cases q1 : ld ≤ 8 * S
              · have q1d : decide (ld ≤ 8 * S) = true := decide_eq_true q1
                by_cases q2 : m ≤ R
                · have q2d : decide (m ≤ R) = true := decide_eq_true q2
                  have hf0 : f = 0 := hsl.2 ⟨q1, q2⟩
                  subst hf0
                  clear hsl HSL
                  go_wp2
                  go_ret
                  exact ⟨by simp [q1, q2], HB10.out⟩
                · have q2d : decide (m ≤ R) = false := decide_eq_false q2
                  have hf0 : (f == 0) = false := by simp; exact fun h => q2 (hsl.1 h).2
                  clear hsl HSL
                  go_wp2
                  go_ret
                  exact ⟨by simp [q1, q2, hf0], HB10.out⟩
              · have q1d : decide (ld ≤ 8 * S) = false := decide_eq_false q1
                have hf0 : (f == 0) = false := by simp; exact fun h => q1 (hsl.1 h).1
                clear hsl HSL
                go_wp2
                go_ret
                exact ⟨by simp [q1, hf0], HB10.out⟩


end Go.Proofs.Ytbbodgeoenjdkaa.fnPlanned
