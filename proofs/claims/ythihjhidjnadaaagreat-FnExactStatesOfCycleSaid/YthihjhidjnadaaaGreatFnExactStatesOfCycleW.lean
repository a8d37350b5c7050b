/-
  The walk of laws.FnExactStatesOfCycle: at every input it returns true and writes nothing that was there.
-/
import Derived.Test.YthihjhidjnadaaaGreatRows
import Derived.Test.YthihjhidjnadaaaGreatP26A
import Derived.Test.YthihjhidjnadaaaGreatP26M
import Derived.Test.YthihjhidjnadaaaGreatP26N
import Derived.Test.YthihjhidjnadaaaGreatP26S
import Derived.Test.YthihjhidjnadaaaGreatP26L
import Derived.Test.YthihjhidjnadaaaGreatP26Z
import Derived.Test.YthihjhidjnadaaaGreatP26I
import Derived.Test.YthihjhidjnadaaaGreatP26U
import Derived.Test.YthihjhidjnadaaaGreatP26Y
import Derived.Test.YthihjhidjnadaaaGreatP26T
import Derived.Test.YthihjhidjnadaaaGreatP26X
import Derived.Test.YthihjhidjnadaaaGreatP26V
import Derived.Test.YthihjhidjnadaaaGreatP26W
import Derived.Test.YthihjhidjnadaaaGreatP26O
import Derived.WalkKit
import Derived.ProofKit
import Derived.OpenShut
import Derived.ShutString
import Derived.ChangeOld
import Derived.Below
import Derived.Lib.SmallJoins
namespace Go.Proofs.YthihjhidjnadaaaGreat.fnExactStatesOfCycle
open Go.ChangeShapes Go.WideShapes Go.ChangeAt Go.RowKit Go.Joins
open Go.ChangeMaps (open_string shut_string)
set_option linter.unusedVariables false
set_option linter.unusedSimpArgs false in
set_option maxRecDepth 100000 in
set_option maxHeartbeats 8000000 in
theorem walk (u0 : Mv) (s1_0 : Int) (s1_1 : Int) (s1_2 : Int) (s1_3 : Int) (s1_4 : Int) (w : World) (w0 : MeRow w u0) (w1_0 : (Lit.int .i64 s1_0).wf = true) (w1_1 : (Lit.int .i64 s1_1).wf = true) (w1_2 : (Lit.int .i64 s1_2).wf = true) (w1_3 : (Lit.int .i64 s1_3).wf = true) (w1_4 : (Lit.int .i64 s1_4).wf = true) :
    Calls Tryz.prog 8 #[mvVal u0, .agg #[.int .i64 s1_0, .int .i64 s1_1, .int .i64 s1_2, .int .i64 s1_3, .int .i64 s1_4]] w fun e w' => e = .returned (.bool true) ∧ Below w.heap.size w w' := by
  obtain ⟨x, ht, hm, hrr, hss, hkk⟩ : ∃ x : Ss, x.t = s1_0 ∧ x.m = s1_1 ∧ x.r = s1_2 ∧ x.s = s1_3 ∧ x.k = s1_4 := ⟨⟨s1_0, s1_1, s1_2, s1_3, s1_4⟩, rfl, rfl, rfl, rfl, rfl⟩
  subst ht hm hrr hss hkk
  have HSZ := Lib.hid (fun W (hW : Below w.heap.size w W) => szMe_any u0 W (w0.below hW))
  have HA := Lib.hid (ArgLu.start (w := w) (u := u0) (x := x))
  by_cases hneg : szMe u0.me < 0
  · clear w0
    unfold mvVal at HSZ ⊢
    go_enter Tryz.func8, Tryz.ntmps8
    go_upto_region 1 with fail
    generalize (w.alloc (.cells #[.int .i64 u0.id, .slice u0.no u0.n.length u0.nc, .slice u0.mo u0.cs.length u0.mc, .slice u0.eo u0.e.length u0.ec] 75)).alloc (.cells #[.int .i64 x.t, .int .i64 x.m, .int .i64 x.r, .int .i64 x.s, .int .i64 x.k] 76) = w1 at HA ⊢
    obtain ⟨q0, q1, q2, q3⟩ := HA.out.arg.box.all
    go_wp2_with fail
    refine (HSZ.out _ HA.out.arg.below).mono ?_
    rintro e w2 ⟨rfl, b2⟩
    clear q0 q1 q2 q3
    generalize szMe u0.me = left at hneg ⊢
    go_wp2_with fail
    go_ret
    exact ⟨rfl, below_two HA.out.arg.below b2⟩
  have hs := szMe_ok hneg
  have HS := Lib.hid hs
  have HRD := Lib.hid (fun W (hW : Below w.heap.size w W) => (hs.rd w0).below hW)
  have HTO := Lib.hid (fun W hW => toMe_any u0 W (HRD.out W hW))
  obtain ⟨r0, r1, hF⟩ : ∃ r0 r1, statesOfCycle u0.me x = (r0, r1) := ⟨_, _, rfl⟩
  have hF1 : (statesOfCycle u0.me x).1 = r0 := by rw [hF]
  have hlen : r0.length ≤ 1048576 := by rw [← hF1]; exact statesOfCycle_len _ _
  have HCS := Lib.hid (fun W v (hv : v.me = u0.me) (hW : RdMe W v) => (show Calls Tryz.prog 19 #[mvVal v, ssVal x] W (MakesSs2 30 W r0 r1) from by
    have h := sStatesOfCycle_any v x W hW
    rw [hv, hF] at h
    exact h))
  have HCI := Lib.hid (fun W v (hv : v.me = u0.me) (hW : RdMe W v) => (show Calls Tryz.prog 18 #[mvVal v, ssVal x] W (MakesSs2 30 W r0 r1) from by
    have h := statesOfCycle_any v x W hW
    rw [hv, hF] at h
    exact h))
  have HEQ := Lib.hid (fun W a b (y : Me) (ha : a.me = y) (hb : b.me = y) (hra : RdMe W a) (hrb : RdMe W b) => eqMe_yes a b W hra hrb (ha.trans hb.symm))
  have HMA := Lib.hid (fun W K5 v5 p4 c4 p7 c7 B (h : BySs B W K5 v5 p4 c4 p7 c7 r0) (hs : Small v5.me) => h.mark hs)
  have hne : (r1 != r1) = false := bne_self_eq_false _
  generalize szMe u0.me = left at HSZ hneg
  clear hF hF1 hs w0
  unfold mvVal at HSZ HCS HCI HEQ HMA ⊢
  unfold mvVal at HTO
  unfold ssVal at HCS HCI
  go_enter Tryz.func8, Tryz.ntmps8
  go_upto_region 1 with fail
  generalize (w.alloc (.cells #[.int .i64 u0.id, .slice u0.no u0.n.length u0.nc, .slice u0.mo u0.cs.length u0.mc, .slice u0.eo u0.e.length u0.ec] 75)).alloc (.cells #[.int .i64 x.t, .int .i64 x.m, .int .i64 x.r, .int .i64 x.s, .int .i64 x.k] 76) = w1 at HA ⊢
  have H0 := Lib.hid (show Hold w1 w1 [] from Hold.start)
  obtain ⟨q0, q1, q2, q3⟩ := HA.out.arg.box.all
  go_wp2_with fail
  refine (HSZ.out _ HA.out.arg.below).mono ?_
  rintro e w2 ⟨rfl, b2⟩
  have H2 := Lib.hid (H0.out.still b2)
  clear q0 q1 q2 q3 b2 HSZ H0
  go_upto_region 5 with fail
  have H2d := Lib.hid (H2.out.still (Below.drew (Below.refl w2.heap.size w2)))
  go_region_held3 (fun w' => w'.cell? ⟨w.heap.size, 0, none⟩ = some (.int .i64 u0.id) ∧ w'.cell? ⟨w.heap.size, 1, none⟩ = some (.slice u0.no u0.n.length u0.nc) ∧ w'.cell? ⟨w.heap.size, 2, none⟩ = some (.slice u0.mo u0.cs.length u0.mc) ∧ w'.cell? ⟨w.heap.size, 3, none⟩ = some (.slice u0.eo u0.e.length u0.ec) ∧ w'.cell? ⟨w.heap.size + 1, 0, none⟩ = some (.int .i64 x.t) ∧ w'.cell? ⟨w.heap.size + 1, 1, none⟩ = some (.int .i64 x.m) ∧ w'.cell? ⟨w.heap.size + 1, 2, none⟩ = some (.int .i64 x.r) ∧ w'.cell? ⟨w.heap.size + 1, 3, none⟩ = some (.int .i64 x.s) ∧ w'.cell? ⟨w.heap.size + 1, 4, none⟩ = some (.int .i64 x.k))
    (first | exact (HA.out.call H2d.out.below).all | exact (HA.out.call H3.out.below).all | exact (HA.out.call H4.out.below).all | exact (HA.out.call H5.out.below).all)
    (first
      | (go_at_call 58; (with_reducible refine (HTO.out _ (HA.out.call H2d.out.below).arg.below).mono ?_); rintro e w3 ⟨v3, hv3, rfl, o3, b3⟩; have HV3 := Lib.hid hv3; have HR3 := Lib.hid (o3.rd (by rw [hv3]; exact HS.out)); have H3 := Lib.hid (H2d.out.still b3); clear b3 o3 hv3; unfold mvVal)
      | (go_at_call 59; (with_reducible refine (toState_any _ _ _ _ _ _).mono ?_); rintro e w4 ⟨rfl, b4⟩; have HR4 := Lib.hid (HR3.out.below b4); have H4 := Lib.hid (H3.out.still b4); clear b4)
      | (go_at_call 19; (with_reducible refine (HCS.out _ _ HV3.out HR4.out).mono ?_); rintro e w5 m5; obtain ⟨p4, c4, rfl, o4, -, b5⟩ := m5.get; have H5 := Lib.hid (H4.out.makeSs o4 b5); clear b5 o4 m5))
  clear H2 H2d H3 H4 HV3 HR3 HR4
  have HG := (HA.out.call H5.out.below)
  obtain ⟨q0, q1, q2, q3⟩ := HG.arg.box.all
  go_wp2_with fail
  refine (HTO.out _ HG.arg.below).mono ?_
  rintro e w6 ⟨v5, hv5, rfl, o5, b6⟩
  have HV5 := Lib.hid hv5
  have H6 := Lib.hid (Hold.makeB (T := 28) (v := v5) (H5.out.makeMe_ o5 b6))
  obtain ⟨K5, hK⟩ : ∃ X, X = w6.heap.size := ⟨_, rfl⟩
  rw [← hK] at H6
  clear q0 q1 q2 q3 HG H5 o5 b6 hv5
  unfold mvVal
  go_upto_region 7 with fail
  rw [← hK]
  clear hK
  generalize w6.alloc (.cells #[.int .i64 v5.id, .slice v5.no v5.n.length v5.nc, .slice v5.mo v5.cs.length v5.mc, .slice v5.eo v5.e.length v5.ec] 28) = w7 at H6 ⊢
  have HSM := Lib.hid (show Small v5.me from by rw [HV5.out]; exact HS.out)
  have H7 := Lib.hid (H6.out.still (Below.drew (Below.refl w7.heap.size w7)))
  clear H6
  go_region_held3 (fun w' => w'.cell? ⟨K5, 0, none⟩ = some (.int .i64 v5.id) ∧ w'.cell? ⟨K5, 1, none⟩ = some (.slice v5.no v5.n.length v5.nc) ∧ w'.cell? ⟨K5, 2, none⟩ = some (.slice v5.mo v5.cs.length v5.mc) ∧ w'.cell? ⟨K5, 3, none⟩ = some (.slice v5.eo v5.e.length v5.ec) ∧ w'.cell? ⟨w.heap.size, 0, none⟩ = some (.int .i64 u0.id) ∧ w'.cell? ⟨w.heap.size, 1, none⟩ = some (.slice u0.no u0.n.length u0.nc) ∧ w'.cell? ⟨w.heap.size, 2, none⟩ = some (.slice u0.mo u0.cs.length u0.mc) ∧ w'.cell? ⟨w.heap.size, 3, none⟩ = some (.slice u0.eo u0.e.length u0.ec) ∧ w'.cell? ⟨w.heap.size + 1, 0, none⟩ = some (.int .i64 x.t) ∧ w'.cell? ⟨w.heap.size + 1, 1, none⟩ = some (.int .i64 x.m) ∧ w'.cell? ⟨w.heap.size + 1, 2, none⟩ = some (.int .i64 x.r) ∧ w'.cell? ⟨w.heap.size + 1, 3, none⟩ = some (.int .i64 x.s) ∧ w'.cell? ⟨w.heap.size + 1, 4, none⟩ = some (.int .i64 x.k))
    (first | exact ⟨(Hold.getB (L1 := []) H7.out).all.1, (Hold.getB (L1 := []) H7.out).all.2.1, (Hold.getB (L1 := []) H7.out).all.2.2.1, (Hold.getB (L1 := []) H7.out).all.2.2.2, (HA.out.call H7.out.below).all⟩ | exact ⟨(Hold.getB (L1 := []) H8.out).all.1, (Hold.getB (L1 := []) H8.out).all.2.1, (Hold.getB (L1 := []) H8.out).all.2.2.1, (Hold.getB (L1 := []) H8.out).all.2.2.2, (HA.out.call H8.out.below).all⟩ | exact ⟨H9.out.b5.all.1, H9.out.b5.all.2.1, H9.out.b5.all.2.2.1, H9.out.b5.all.2.2.2, (HA.out.call H9.out.h.below).all⟩)
    (first
      | (go_at_call 59; (with_reducible refine (toState_any _ _ _ _ _ _).mono ?_); rintro e w8 ⟨rfl, b8⟩; have H8 := Lib.hid (H7.out.still b8); clear b8)
      | (go_at_call 18; (with_reducible refine (HCI.out _ _ HV5.out ((Hold.getMe_ (L1 := []) H8.out.tail_).rd HSM.out)).mono ?_); rintro e w9 m9; obtain ⟨p7, c7, rfl, o9, -, b9⟩ := m9.get; have H9 := Lib.hid (show BySs w1 w9 K5 v5 p4 c4 p7 c7 r0 from ⟨H8.out.makeSs o9 b9⟩); clear b9 o9 m9))
  clear H7 H8
  go_wp2_with fail
  refine (eqsss_yes _ _ _ _ _ _ _ H9.out.g H9.out.w (by omega) H9.out.gc H9.out.wc).mono ?_
  rintro e w10 ⟨rfl, b⟩
  have H10 := Lib.hid (H9.out.call b)
  clear H9 b
  go_wp2_with fail
  have H11 := Lib.hid (H10.out.call (Below.drew (Below.refl w10.heap.size w10)))
  go_region_held3 (fun w' => w'.cell? ⟨K5, 0, none⟩ = some (.int .i64 v5.id) ∧ w'.cell? ⟨K5, 1, none⟩ = some (.slice v5.no v5.n.length v5.nc) ∧ w'.cell? ⟨K5, 2, none⟩ = some (.slice v5.mo v5.cs.length v5.mc) ∧ w'.cell? ⟨K5, 3, none⟩ = some (.slice v5.eo v5.e.length v5.ec) ∧ w'.cell? ⟨w.heap.size, 0, none⟩ = some (.int .i64 u0.id) ∧ w'.cell? ⟨w.heap.size, 1, none⟩ = some (.slice u0.no u0.n.length u0.nc) ∧ w'.cell? ⟨w.heap.size, 2, none⟩ = some (.slice u0.mo u0.cs.length u0.mc) ∧ w'.cell? ⟨w.heap.size, 3, none⟩ = some (.slice u0.eo u0.e.length u0.ec))
    (first | exact ⟨H11.out.b5.all.1, H11.out.b5.all.2.1, H11.out.b5.all.2.2.1, H11.out.b5.all.2.2.2, (HA.out.call H11.out.h.below).arg.box.all⟩ | exact ⟨HAA.out.b5.all.1, HAA.out.b5.all.2.1, HAA.out.b5.all.2.2.1, HAA.out.b5.all.2.2.2, (HA.out.call HAA.out.h.below).arg.box.all⟩ | exact ⟨HAB.out.b5.all.1, HAB.out.b5.all.2.1, HAB.out.b5.all.2.2.1, HAB.out.b5.all.2.2.2, (HA.out.call HAB.out.h.below).arg.box.all⟩)
    (first
      | (go_at_call 58; (with_reducible refine (HTO.out _ (HA.out.call H11.out.h.below).arg.below).mono ?_); rintro e w11 ⟨v9, hv9, rfl, o9, b9⟩; have HV9 := Lib.hid hv9; have HR9 := Lib.hid (o9.rd (by rw [hv9]; exact HS.out)); have HAA := Lib.hid (H11.out.call b9); clear b9 o9 hv9; unfold mvVal)
      | (go_at_call 61; (with_reducible refine (HEQ.out _ _ _ _ HV5.out HV9.out (HAA.out.r5 HSM.out) HR9.out).mono ?_); rintro e w12 ⟨rfl, bA⟩; have HAB := Lib.hid (HAA.out.call bA); clear bA))
  clear H10 H11 HAA HR9 HV9
  obtain ⟨q0, q1, q2, q3⟩ := HAB.out.b5.all
  go_wp2_with fail
  refine (HMA.out _ _ _ _ _ _ _ _ HAB.out HSM.out).mono ?_
  rintro e w13 ⟨rfl, h⟩
  have g3 : ¬ ((markTot v5 : Nat) : Int) < 0 := by omega
  generalize ((markTot v5 : Nat) : Int) = z5 at g3 ⊢
  have H := h
  clear q0 q1 q2 q3 HAB h HMA
  go_wp2_with fail
  refine (eqsss_yes _ _ _ _ _ _ _ (H.rdSs 0 rfl) (H.rdSs 1 rfl) (by omega) (H.capSs 0 rfl) (H.capSs 1 rfl)).mono ?_
  rintro e w14 ⟨rfl, b⟩
  replace H := H.still b
  clear b
  go_wp2_with fail
  refine (marksss_any _ _ _ _ _ _ _ rfl (H.getSs 0 rfl) (by omega) (by omega) (by omega)).mono ?_
  rintro e w15 ⟨rfl, o, g⟩
  replace H := H.mark (q := itsSs 30 (Value.slice p7 r0.length c7) (marksSs (1) r0.length)) [] rfl o g
  clear o g
  go_wp2_with fail
  have hh := H.rdSs 0 rfl
  rw [marksSs_len] at hh
  refine (heldsss_yes _ _ _ _ _ hh (by omega) (by omega) (by omega)).mono ?_
  rintro e w16 ⟨rfl, b⟩
  replace H := H.still b
  clear hh b
  have HH := Lib.hid H
  clear H
  go_upto_region 24 with fail
  have HHd := Lib.hid (HH.out.still (Below.drew (Below.refl w16.heap.size w16)))
  clear HH
  go_region_held3 (fun w' => w'.cell? ⟨w.heap.size, 0, none⟩ = some (.int .i64 u0.id) ∧ w'.cell? ⟨w.heap.size, 1, none⟩ = some (.slice u0.no u0.n.length u0.nc) ∧ w'.cell? ⟨w.heap.size, 2, none⟩ = some (.slice u0.mo u0.cs.length u0.mc) ∧ w'.cell? ⟨w.heap.size, 3, none⟩ = some (.slice u0.eo u0.e.length u0.ec) ∧ w'.cell? ⟨w.heap.size + 1, 0, none⟩ = some (.int .i64 x.t) ∧ w'.cell? ⟨w.heap.size + 1, 1, none⟩ = some (.int .i64 x.m) ∧ w'.cell? ⟨w.heap.size + 1, 2, none⟩ = some (.int .i64 x.r) ∧ w'.cell? ⟨w.heap.size + 1, 3, none⟩ = some (.int .i64 x.s) ∧ w'.cell? ⟨w.heap.size + 1, 4, none⟩ = some (.int .i64 x.k))
    (first | exact (HA.out.call HHd.out.below).all | exact (HA.out.call HB0.out.below).all | exact (HA.out.call HB1.out.below).all | exact (HA.out.call HB2.out.below).all)
    (first
      | (go_at_call 58; (with_reducible refine (HTO.out _ (HA.out.call HHd.out.below).arg.below).mono ?_); rintro e wa ⟨va, hva, rfl, oa, ba⟩; have HVA := Lib.hid hva; have HRA := Lib.hid (oa.rd (by rw [hva]; exact HS.out)); have HB0 := Lib.hid (HHd.out.still ba); clear ba oa hva; unfold mvVal)
      | (go_at_call 59; (with_reducible refine (toState_any _ _ _ _ _ _).mono ?_); rintro e wb ⟨rfl, bb⟩; have HRB := Lib.hid (HRA.out.below bb); have HB1 := Lib.hid (HB0.out.still bb); clear bb)
      | (go_at_call 18; (with_reducible refine (HCI.out _ _ HVA.out HRB.out).mono ?_); rintro e wc mc; obtain ⟨p11, c11, rfl, oc, -, bc⟩ := mc.get; have HB2 := Lib.hid (HB1.out.makeSs oc bc); clear bc oc mc))
  clear HHd HB0 HB1 HVA HRA HRB
  have H := HB2.out
  clear HB2
  go_wp2_with fail
  refine (eqsss_yes _ _ _ _ _ _ _ (H.rdSs 0 rfl) (H.rdSs 2 rfl) (by omega) (H.capSs 0 rfl) (H.capSs 2 rfl)).mono ?_
  rintro e w20 ⟨rfl, b⟩
  replace H := H.still b
  clear b
  go_wp2_with fail
  have hh := H.rdSs 1 rfl
  rw [marksSs_len] at hh
  refine (heldsss_yes _ _ _ _ _ hh (by omega) (by omega) (by omega)).mono ?_
  rintro e w21 ⟨rfl, b⟩
  replace H := H.still b
  clear hh b
  go_wp2_with fail
  go_ret
  exact ⟨rfl, (HA.out.call H.below).arg.below⟩
end Go.Proofs.YthihjhidjnadaaaGreat.fnExactStatesOfCycle
