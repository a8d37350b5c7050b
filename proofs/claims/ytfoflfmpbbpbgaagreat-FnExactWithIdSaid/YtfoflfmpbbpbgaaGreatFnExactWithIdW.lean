/-
  The walk of laws.FnExactWithId: at every input it returns true and writes nothing that was there.
-/
import Derived.Test.YtfoflfmpbbpbgaaGreatRows
import Derived.Test.YtfoflfmpbbpbgaaGreatPwA
import Derived.Test.YtfoflfmpbbpbgaaGreatPwM
import Derived.Test.YtfoflfmpbbpbgaaGreatPwN
import Derived.Test.YtfoflfmpbbpbgaaGreatPwS
import Derived.Test.YtfoflfmpbbpbgaaGreatPwL
import Derived.Test.YtfoflfmpbbpbgaaGreatPwI
import Derived.Test.YtfoflfmpbbpbgaaGreatPwT
import Derived.Test.YtfoflfmpbbpbgaaGreatPwC
import Derived.WalkKit
import Derived.ProofKit
import Derived.OpenShut
import Derived.ShutString
import Derived.ChangeOld
import Derived.Below
import Derived.Lib.SmallJoins
namespace Go.Proofs.YtfoflfmpbbpbgaaGreat.fnExactWithId
open Go.ChangeShapes Go.WideShapes Go.ChangeAt Go.RowKit Go.Joins
open Go.ChangeMaps (open_string shut_string)
set_option linter.unusedVariables false
set_option maxRecDepth 100000 in
theorem walk (u0 : Mv) (a1 : Int) (w : World) (w0 : MeRow w u0) (w1 : (Lit.int .i64 a1).wf = true) :
    Calls Tryz.prog 9 #[mvVal u0, .int .i64 a1] w fun e w' => e = .returned (.bool true) ∧ Below w.heap.size w w' := by
  have HSZ := Lib.hid (fun W (hW : Below w.heap.size w W) => szMe_any u0 W (w0.below hW))
  have HA := Lib.hid (ArgSt.start w u0)
  by_cases hneg : szMe u0.me < 0
  · clear w0
    unfold mvVal at HSZ ⊢
    go_enter Tryz.func9, Tryz.ntmps9
    go_upto_region 1 with fail
    generalize w.alloc (.cells #[.int .i64 u0.id, .slice u0.no u0.n.length u0.nc, .slice u0.mo u0.cs.length u0.mc, .slice u0.eo u0.e.length u0.ec] 50) = w1 at HA ⊢
    obtain ⟨q0, q1, q2, q3⟩ := HA.out.box.all
    go_wp2_with fail
    refine (HSZ.out _ HA.out.below).mono ?_
    rintro e w2 ⟨rfl, b2⟩
    clear q0 q1 q2 q3
    generalize szMe u0.me = left at hneg ⊢
    go_wp2_with fail
    go_ret
    exact ⟨rfl, below_two HA.out.below b2⟩
  have hs := szMe_ok hneg
  have HS := Lib.hid hs
  have HSR := Lib.hid (small_with hs a1)
  have HRD := Lib.hid (fun W (hW : Below w.heap.size w W) => (hs.rd w0).below hW)
  have HTO := Lib.hid (fun W hW => toMe_any u0 W (HRD.out W hW))
  obtain ⟨m, r1, hF⟩ : ∃ m r1, withId u0.me a1 = (m, r1) := ⟨_, _, rfl⟩
  have hF1 : (withId u0.me a1).1 = m := by rw [hF]
  rw [hF1] at HSR
  have HCS := Lib.hid (fun W v (hv : v.me = u0.me) (hW : RdMe W v) => (show Calls Tryz.prog 25 #[mvVal v, .int .i64 a1] W (GivesMe2 W m r1) from by
    have h := swithId_any v a1 W hW
    rw [hv, hF] at h
    exact h))
  have HCI := Lib.hid (fun W v (hv : v.me = u0.me) (hW : RdMe W v) => (show Calls Tryz.prog 24 #[mvVal v, .int .i64 a1] W (GivesMe2 W m r1) from by
    have h := withId_any v a1 W hW
    rw [hv, hF] at h
    exact h))
  have HEQ := Lib.hid (fun W a b (x : Me) (ha : a.me = x) (hb : b.me = x) (hra : RdMe W a) (hrb : RdMe W b) => eqMe_yes a b W hra hrb (ha.trans hb.symm))
  have HMA := Lib.hid (fun W K4 K5 K7 v4 v5 v7 B (h : WiA B W K4 K5 K7 v4 v5 v7) (hs : Small v5.me) => h.mark hs)
  have HMB := Lib.hid (fun W K4 K7 v4 v7 B (h : WiB B W K4 K7 v4 v7) (hs : Small v7.me) => h.mark hs)
  have hne : (r1 != r1) = false := bne_self_eq_false _
  generalize szMe u0.me = left at HSZ hneg
  clear hF hF1 hs w0
  unfold mvVal at HSZ HCS HCI HEQ HMA HMB ⊢
  unfold mvVal at HTO
  go_enter Tryz.func9, Tryz.ntmps9
  go_upto_region 1 with fail
  generalize w.alloc (.cells #[.int .i64 u0.id, .slice u0.no u0.n.length u0.nc, .slice u0.mo u0.cs.length u0.mc, .slice u0.eo u0.e.length u0.ec] 50) = w1 at HA ⊢
  have H0 := Lib.hid (show Hold w1 w1 [] from Hold.start)
  obtain ⟨q0, q1, q2, q3⟩ := HA.out.box.all
  go_wp2_with fail
  refine (HSZ.out _ HA.out.below).mono ?_
  rintro e w2 ⟨rfl, b2⟩
  have H2 := Lib.hid (H0.out.still b2)
  clear q0 q1 q2 q3 b2 HSZ H0
  have HG := (HA.out.call H2.out.below)
  obtain ⟨q0, q1, q2, q3⟩ := HG.box.all
  go_wp2_with fail
  refine (HTO.out _ HG.below).mono ?_
  rintro e w3 ⟨v3, hv3, rfl, o3, b3⟩
  have HV3 := Lib.hid hv3
  have HR3 := Lib.hid (o3.rd (by rw [hv3]; exact HS.out))
  have H3 := Lib.hid (H2.out.still b3)
  clear q0 q1 q2 q3 HG H2 b3 o3 hv3
  unfold mvVal
  go_wp2_with fail
  refine (HCS.out _ _ HV3.out HR3.out).mono ?_
  rintro e w4 ⟨v4, hv4, rfl, o4, b4⟩
  have HV4 := Lib.hid hv4
  have H4 := Lib.hid (Hold.makeB (T := 28) (v := v4) (H3.out.makeMe_ o4 b4))
  obtain ⟨K4, hK⟩ : ∃ X, X = w4.heap.size := ⟨_, rfl⟩
  rw [← hK] at H4
  clear HR3 HV3 H3 o4 b4 hv4
  unfold mvVal
  go_upto_region 6 with fail
  rw [← hK]
  clear hK
  generalize w4.alloc (.cells #[.int .i64 v4.id, .slice v4.no v4.n.length v4.nc, .slice v4.mo v4.cs.length v4.mc, .slice v4.eo v4.e.length v4.ec] 28) = w5 at H4 ⊢
  have HG := (HA.out.call H4.out.below)
  obtain ⟨q0, q1, q2, q3⟩ := HG.box.all
  go_wp2_with fail
  refine (HTO.out _ HG.below).mono ?_
  rintro e w6 ⟨v5, hv5, rfl, o5, b5⟩
  have HV5 := Lib.hid hv5
  have H5 := Lib.hid (Hold.makeB (T := 28) (v := v5) (H4.out.makeMe_ o5 b5))
  obtain ⟨K5, hK⟩ : ∃ X, X = w6.heap.size := ⟨_, rfl⟩
  rw [← hK] at H5
  clear q0 q1 q2 q3 HG H4 o5 b5 hv5
  unfold mvVal
  go_upto_region 7 with fail
  rw [← hK]
  clear hK
  generalize w6.alloc (.cells #[.int .i64 v5.id, .slice v5.no v5.n.length v5.nc, .slice v5.mo v5.cs.length v5.mc, .slice v5.eo v5.e.length v5.ec] 28) = w7 at H5 ⊢
  obtain ⟨q0, q1, q2, q3⟩ := (Hold.getB (L1 := []) H5.out).all
  have HR5 := Lib.hid ((Hold.getMe_ (L1 := []) H5.out.tail_).rd (by rw [HV5.out]; exact HS.out))
  go_wp2_with fail
  refine (HCI.out _ _ HV5.out HR5.out).mono ?_
  rintro e w8 ⟨v7, hv7, rfl, o7, b7⟩
  have HV7 := Lib.hid hv7
  have H7 := Lib.hid (show WiA w1 _ K4 K5 w8.heap.size v4 v5 v7 from ⟨Hold.makeB (T := 28) (v := v7) (H5.out.makeMe_ o7 b7)⟩)
  obtain ⟨K7, hK⟩ : ∃ X, X = w8.heap.size := ⟨_, rfl⟩
  rw [← hK] at H7
  clear q0 q1 q2 q3 HR5 H5 o7 b7 hv7
  have HS4 := Lib.hid (show Small v4.me from by rw [HV4.out]; exact HSR.out)
  have HS5 := Lib.hid (show Small v5.me from by rw [HV5.out]; exact HS.out)
  have HS7 := Lib.hid (show Small v7.me from by rw [HV7.out]; exact HSR.out)
  unfold mvVal
  go_upto_region 8 with fail
  rw [← hK]
  clear hK
  generalize w8.alloc (.cells #[.int .i64 v7.id, .slice v7.no v7.n.length v7.nc, .slice v7.mo v7.cs.length v7.mc, .slice v7.eo v7.e.length v7.ec] 28) = w9 at H7 ⊢
  obtain ⟨q0, q1, q2, q3⟩ := H7.out.b7.all
  obtain ⟨q4, q5, q6, q7⟩ := H7.out.b4.all
  go_wp2_with fail
  refine (HEQ.out _ _ _ _ HV7.out HV4.out (H7.out.r7 HS7.out) (H7.out.r4 HS4.out)).mono ?_
  rintro e w10 ⟨rfl, b⟩
  have H8 := Lib.hid (H7.out.call b)
  clear q0 q1 q2 q3 q4 q5 q6 q7 H7 b
  go_wp2_with fail
  have H9 := Lib.hid (H8.out.call (Below.drew (Below.refl w10.heap.size w10)))
  go_region_held3 (fun w' => w'.cell? ⟨K5, 0, none⟩ = some (.int .i64 v5.id) ∧ w'.cell? ⟨K5, 1, none⟩ = some (.slice v5.no v5.n.length v5.nc) ∧ w'.cell? ⟨K5, 2, none⟩ = some (.slice v5.mo v5.cs.length v5.mc) ∧ w'.cell? ⟨K5, 3, none⟩ = some (.slice v5.eo v5.e.length v5.ec) ∧ w'.cell? ⟨K7, 0, none⟩ = some (.int .i64 v7.id) ∧ w'.cell? ⟨K7, 1, none⟩ = some (.slice v7.no v7.n.length v7.nc) ∧ w'.cell? ⟨K7, 2, none⟩ = some (.slice v7.mo v7.cs.length v7.mc) ∧ w'.cell? ⟨K7, 3, none⟩ = some (.slice v7.eo v7.e.length v7.ec) ∧ w'.cell? ⟨K4, 0, none⟩ = some (.int .i64 v4.id) ∧ w'.cell? ⟨K4, 1, none⟩ = some (.slice v4.no v4.n.length v4.nc) ∧ w'.cell? ⟨K4, 2, none⟩ = some (.slice v4.mo v4.cs.length v4.mc) ∧ w'.cell? ⟨K4, 3, none⟩ = some (.slice v4.eo v4.e.length v4.ec) ∧ w'.cell? ⟨w.heap.size, 0, none⟩ = some (.int .i64 u0.id) ∧ w'.cell? ⟨w.heap.size, 1, none⟩ = some (.slice u0.no u0.n.length u0.nc) ∧ w'.cell? ⟨w.heap.size, 2, none⟩ = some (.slice u0.mo u0.cs.length u0.mc) ∧ w'.cell? ⟨w.heap.size, 3, none⟩ = some (.slice u0.eo u0.e.length u0.ec))
    (first | exact ⟨H9.out.b5.all.1, H9.out.b5.all.2.1, H9.out.b5.all.2.2.1, H9.out.b5.all.2.2.2, H9.out.b7.all.1, H9.out.b7.all.2.1, H9.out.b7.all.2.2.1, H9.out.b7.all.2.2.2, H9.out.b4.all.1, H9.out.b4.all.2.1, H9.out.b4.all.2.2.1, H9.out.b4.all.2.2.2, (HA.out.call H9.out.h.below).box.all⟩ | exact ⟨HAA.out.b5.all.1, HAA.out.b5.all.2.1, HAA.out.b5.all.2.2.1, HAA.out.b5.all.2.2.2, HAA.out.b7.all.1, HAA.out.b7.all.2.1, HAA.out.b7.all.2.2.1, HAA.out.b7.all.2.2.2, HAA.out.b4.all.1, HAA.out.b4.all.2.1, HAA.out.b4.all.2.2.1, HAA.out.b4.all.2.2.2, (HA.out.call HAA.out.h.below).box.all⟩ | exact ⟨HAB.out.b5.all.1, HAB.out.b5.all.2.1, HAB.out.b5.all.2.2.1, HAB.out.b5.all.2.2.2, HAB.out.b7.all.1, HAB.out.b7.all.2.1, HAB.out.b7.all.2.2.1, HAB.out.b7.all.2.2.2, HAB.out.b4.all.1, HAB.out.b4.all.2.1, HAB.out.b4.all.2.2.1, HAB.out.b4.all.2.2.2, (HA.out.call HAB.out.h.below).box.all⟩)
    (first
      | (go_at_call 32; (with_reducible refine (HTO.out _ (HA.out.call H9.out.h.below).below).mono ?_); rintro e w11 ⟨v9, hv9, rfl, o9, b9⟩; have HV9 := Lib.hid hv9; have HR9 := Lib.hid (o9.rd (by rw [hv9]; exact HS.out)); have HAA := Lib.hid (H9.out.call b9); clear b9 o9 hv9; unfold mvVal)
      | (go_at_call 33; (with_reducible refine (HEQ.out _ _ _ _ HV5.out HV9.out (HAA.out.r5 HS5.out) HR9.out).mono ?_); rintro e w12 ⟨rfl, bA⟩; have HAB := Lib.hid (HAA.out.call bA); clear bA))
  clear H8 H9 HAA HR9 HV9
  obtain ⟨q0, q1, q2, q3⟩ := HAB.out.b5.all
  go_wp2_with fail
  refine (HMA.out _ _ _ _ _ _ _ _ HAB.out HS5.out).mono ?_
  rintro e w13 ⟨rfl, h⟩
  have g3 : ¬ ((markTot v5 : Nat) : Int) < 0 := by omega
  generalize ((markTot v5 : Nat) : Int) = z5 at g3 ⊢
  have HB := Lib.hid h
  clear q0 q1 q2 q3 HAB h HMA
  obtain ⟨q0, q1, q2, q3⟩ := HB.out.b7.all
  obtain ⟨q4, q5, q6, q7⟩ := HB.out.b4.all
  go_wp2_with fail
  refine (HEQ.out _ _ _ _ HV7.out HV4.out (HB.out.r7 HS7.out) (HB.out.r4 HS4.out)).mono ?_
  rintro e w14 ⟨rfl, b⟩
  have HB2 := Lib.hid (HB.out.call b)
  clear q0 q1 q2 q3 q4 q5 q6 q7 HB b
  obtain ⟨q0, q1, q2, q3⟩ := HB2.out.b7.all
  go_wp2_with fail
  refine (HMB.out _ _ _ _ _ _ HB2.out HS7.out).mono ?_
  rintro e w15 ⟨rfl, h⟩
  have HHE := Lib.hid (fun W (h : WiC w1 W K4 K7 v4 v7) => h.held HS7.out)
  unfold mvVal at HHE
  have g7 : ¬ ((markTot v7 : Nat) : Int) < 0 := by omega
  generalize ((markTot v7 : Nat) : Int) = z7 at g7 HHE ⊢
  have hz7 : (z7 != z7) = false := bne_self_eq_false _
  have HC := Lib.hid h
  clear q0 q1 q2 q3 HB2 h HMB
  obtain ⟨q0, q1, q2, q3⟩ := HC.out.b7.all
  go_wp2_with fail
  refine (HHE.out _ HC.out).mono ?_
  rintro e w16 ⟨rfl, b⟩
  have HD := Lib.hid (HC.out.call b)
  clear q0 q1 q2 q3 HC b
  have HG := (HA.out.call HD.out.h.below)
  obtain ⟨q0, q1, q2, q3⟩ := HG.box.all
  go_wp2_with fail
  refine (HTO.out _ HG.below).mono ?_
  rintro e w17 ⟨v10, hv10, rfl, o10, b10⟩
  have HV10 := Lib.hid hv10
  have HR10 := Lib.hid (o10.rd (by rw [hv10]; exact HS.out))
  have HD2 := Lib.hid (HD.out.call b10)
  clear q0 q1 q2 q3 HG HD o10 b10 hv10
  unfold mvVal
  go_wp2_with fail
  refine (HCI.out _ _ HV10.out HR10.out).mono ?_
  rintro e w18 ⟨v11, hv11, rfl, o11, b11⟩
  have HV11 := Lib.hid hv11
  have HX := Lib.hid (VarSt.start (o11.rd (by rw [hv11]; exact HSR.out)))
  have HD3 := Lib.hid ((HD2.out.call b11).call ((Below.refl w18.heap.size w18).alloc (Nat.le_refl _) (.cells #[.int .i64 v11.id, .slice v11.no v11.n.length v11.nc, .slice v11.mo v11.cs.length v11.mc, .slice v11.eo v11.e.length v11.ec] 28)))
  obtain ⟨K11, hK⟩ : ∃ X, X = w18.heap.size := ⟨_, rfl⟩
  rw [← hK] at HX
  clear HR10 HD2 o11 b11 hv11
  unfold mvVal
  go_upto_region 25 with fail
  rw [← hK]
  clear hK
  generalize w18.alloc (.cells #[.int .i64 v11.id, .slice v11.no v11.n.length v11.nc, .slice v11.mo v11.cs.length v11.mc, .slice v11.eo v11.e.length v11.ec] 28) = w19 at HX HD3 ⊢
  obtain ⟨q0, q1, q2, q3⟩ := HX.out.box.all
  obtain ⟨q4, q5, q6, q7⟩ := HD3.out.b4.all
  go_wp2_with fail
  refine (HEQ.out _ _ _ _ HV11.out HV4.out HX.out.rd (HD3.out.r4 HS4.out)).mono ?_
  rintro e w20 ⟨rfl, b⟩
  have HE := Lib.hid (HD3.out.call b)
  clear q0 q1 q2 q3 q4 q5 q6 q7 HD3 HX b
  obtain ⟨q0, q1, q2, q3⟩ := HE.out.b7.all
  go_wp2_with fail
  refine (HHE.out _ HE.out).mono ?_
  rintro e w21 ⟨rfl, b⟩
  clear q0 q1 q2 q3
  go_wp2_with fail
  go_ret
  exact ⟨rfl, below_two (HA.out.call HE.out.h.below).below b⟩
end Go.Proofs.YtfoflfmpbbpbgaaGreat.fnExactWithId
