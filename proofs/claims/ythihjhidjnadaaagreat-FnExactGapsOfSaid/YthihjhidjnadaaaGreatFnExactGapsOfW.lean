/-
  The walk of laws.FnExactGapsOf: at every input it returns true and writes nothing that was there.
-/
import Derived.Test.YthihjhidjnadaaaGreatRows
import Derived.Test.YthihjhidjnadaaaGreatP20A
import Derived.Test.YthihjhidjnadaaaGreatP20N
import Derived.Test.YthihjhidjnadaaaGreatP20S
import Derived.Test.YthihjhidjnadaaaGreatP20M
import Derived.Test.YthihjhidjnadaaaGreatP20Z
import Derived.Test.YthihjhidjnadaaaGreatP20I
import Derived.Test.YthihjhidjnadaaaGreatP20U
import Derived.Test.YthihjhidjnadaaaGreatP20T
import Derived.Test.YthihjhidjnadaaaGreatP20X
import Derived.Test.YthihjhidjnadaaaGreatP20V
import Derived.Test.YthihjhidjnadaaaGreatP20O
import Derived.Test.YthihjhidjnadaaaGreatP20L
import Derived.Test.YthihjhidjnadaaaGreatP20Y
import Derived.Test.YthihjhidjnadaaaGreatP20F
import Derived.Test.YthihjhidjnadaaaGreatP20H
import Derived.WalkKit
import Derived.ProofKit
import Derived.OpenShut
import Derived.ShutString
import Derived.ChangeOld
import Derived.Below
import Derived.Lib.SmallJoins
namespace Go.Proofs.YthihjhidjnadaaaGreat.fnExactGapsOf
open Go.ChangeShapes Go.WideShapes Go.ChangeAt Go.RowKit Go.Joins
open Go.ChangeMaps (open_string shut_string)
set_option linter.unusedVariables false
set_option maxRecDepth 100000 in
set_option maxHeartbeats 4000000 in
theorem walk (u0 : Mv) (a1 : Int) (a2 : Int) (w : World) (w0 : MeRow w u0) (w1 : (Lit.int .i64 a1).wf = true) (w2 : (Lit.int .i64 a2).wf = true) :
    Calls Tryz.prog 9 #[mvVal u0, .int .i64 a1, .int .i64 a2] w fun e w' => e = .returned (.bool true) ∧ Below w.heap.size w w' := by
  have HSZ := Lib.hid (fun W (hW : Below w.heap.size w W) => szMe_any u0 W (w0.below hW))
  have HA := Lib.hid (ArgSt.start w u0)
  by_cases hneg : szMe u0.me < 0
  · clear w0
    unfold mvVal at HSZ ⊢
    go_enter Tryz.func9, Tryz.ntmps9
    go_upto_region 1 with fail
    generalize w.alloc (.cells #[.int .i64 u0.id, .slice u0.no u0.n.length u0.nc, .slice u0.mo u0.cs.length u0.mc, .slice u0.eo u0.e.length u0.ec] 75) = w1 at HA ⊢
    obtain ⟨q0, q1, q2, q3⟩ := HA.out.box.all
    go_wp2_with fail
    refine (HSZ.out _ HA.out.below).mono ?_
    rintro e w2 ⟨rfl, b2⟩
    clear q0 q1 q2 q3
    generalize szMe u0.me = left at hneg ⊢
    go_wp2_with fail
    go_ret
    exact ⟨rfl, below_two HA.out.below b2⟩
  have hs := szMe_ok hneg
  have HS := Lib.hid hs
  have HRD := Lib.hid (fun W (hW : Below w.heap.size w W) => (hs.rd w0).below hW)
  have HTO := Lib.hid (fun W hW => toMe_any u0 W (HRD.out W hW))
  obtain ⟨r0, r1, hF⟩ : ∃ r0 r1, gapsOf u0.me a1 a2 = (r0, r1) := ⟨_, _, rfl⟩
  have hF1 : (gapsOf u0.me a1 a2).1 = r0 := by rw [hF]
  have hlen : r0.length ≤ 1048576 := by rw [← hF1]; exact gapsOf_len _ _ _
  have HCS := Lib.hid (fun W v (hv : v.me = u0.me) (hW : RdMe W v) => (show Calls Tryz.prog 37 #[mvVal v, .int .i64 a1, .int .i64 a2] W (Makes2 2 W r0 r1) from by
    have h := sGapsOf_any v a1 a2 W hW
    rw [hv, hF] at h
    exact h))
  have HCI := Lib.hid (fun W v (hv : v.me = u0.me) (hW : RdMe W v) => (show Calls Tryz.prog 36 #[mvVal v, .int .i64 a1, .int .i64 a2] W (Makes2 2 W r0 r1) from by
    have h := gapsOf_any v a1 a2 W hW
    rw [hv, hF] at h
    exact h))
  have HEQ := Lib.hid (fun W a b (x : Me) (ha : a.me = x) (hb : b.me = x) (hra : RdMe W a) (hrb : RdMe W b) => eqMe_yes a b W hra hrb (ha.trans hb.symm))
  have HMA := Lib.hid (fun W K5 v5 p4 c4 p7 c7 B (h : ByA B W K5 v5 p4 c4 p7 c7 r0) (hs : Small v5.me) => h.mark hs)
  have hne : (r1 != r1) = false := bne_self_eq_false _
  generalize szMe u0.me = left at HSZ hneg
  clear hF hF1 hs w0
  unfold mvVal at HSZ HCS HCI HEQ HMA ⊢
  unfold mvVal at HTO
  go_enter Tryz.func9, Tryz.ntmps9
  go_upto_region 1 with fail
  generalize w.alloc (.cells #[.int .i64 u0.id, .slice u0.no u0.n.length u0.nc, .slice u0.mo u0.cs.length u0.mc, .slice u0.eo u0.e.length u0.ec] 75) = w1 at HA ⊢
  have H0 := Lib.hid (show Hold w1 w1 [] from Hold.start)
  obtain ⟨q0, q1, q2, q3⟩ := HA.out.box.all
  go_wp2_with fail
  refine (HSZ.out _ HA.out.below).mono ?_
  rintro e w2 ⟨rfl, b2⟩
  have H2 := Lib.hid (H0.out.still b2)
  clear q0 q1 q2 q3 b2 HSZ H0
  have HG := (HA.out.call H2.out.below)
  obtain ⟨q0, q1, q2, q3⟩ := HG.box.all
  go_wp2_with fail
  refine (HTO.out _ HG.below).mono ?_
  rintro e w3 ⟨v3, hv3, rfl, o3, b3⟩
  have HV3 := Lib.hid hv3
  have HR3 := Lib.hid (o3.rd (by rw [hv3]; exact HS.out))
  have H3 := Lib.hid (H2.out.still b3)
  clear q0 q1 q2 q3 HG H2 b3 o3 hv3
  unfold mvVal
  go_wp2_with fail
  refine (HCS.out _ _ HV3.out HR3.out).mono ?_
  rintro e w4 m4
  obtain ⟨p4, c4, rfl, o4, -, b4⟩ := m4.get
  have H4 := Lib.hid (H3.out.makeI o4 b4)
  clear HR3 HV3 H3 o4 b4 m4
  have HG := (HA.out.call H4.out.below)
  obtain ⟨q0, q1, q2, q3⟩ := HG.box.all
  go_wp2_with fail
  refine (HTO.out _ HG.below).mono ?_
  rintro e w6 ⟨v5, hv5, rfl, o5, b5⟩
  have HV5 := Lib.hid hv5
  have H5 := Lib.hid (Hold.makeB (T := 28) (v := v5) (H4.out.makeMe_ o5 b5))
  obtain ⟨K5, hK⟩ : ∃ X, X = w6.heap.size := ⟨_, rfl⟩
  rw [← hK] at H5
  clear q0 q1 q2 q3 HG H4 o5 b5 hv5
  unfold mvVal
  go_upto_region 6 with fail
  rw [← hK]
  clear hK
  generalize w6.alloc (.cells #[.int .i64 v5.id, .slice v5.no v5.n.length v5.nc, .slice v5.mo v5.cs.length v5.mc, .slice v5.eo v5.e.length v5.ec] 28) = w7 at H5 ⊢
  obtain ⟨q0, q1, q2, q3⟩ := (Hold.getB (L1 := []) H5.out).all
  have HR5 := Lib.hid ((Hold.getMe_ (L1 := []) H5.out.tail_).rd (by rw [HV5.out]; exact HS.out))
  go_wp2_with fail
  refine (HCI.out _ _ HV5.out HR5.out).mono ?_
  rintro e w8 m7
  obtain ⟨p7, c7, rfl, o7, -, b7⟩ := m7.get
  have H7 := Lib.hid (show ByA w1 w8 K5 v5 p4 c4 p7 c7 r0 from ⟨H5.out.makeI o7 b7⟩)
  have HS5 := Lib.hid (show Small v5.me from by rw [HV5.out]; exact HS.out)
  clear q0 q1 q2 q3 HR5 H5 o7 b7 m7
  go_wp2_with fail
  refine (eq_yes _ _ _ _ _ _ _ _ H7.out.g H7.out.w (by omega)).mono ?_
  rintro e w10 ⟨rfl, b⟩
  have H8 := Lib.hid (H7.out.call b)
  clear H7 b
  go_wp2_with fail
  have H9 := Lib.hid (H8.out.call (Below.drew (Below.refl w10.heap.size w10)))
  go_region_held3 (fun w' => w'.cell? ⟨K5, 0, none⟩ = some (.int .i64 v5.id) ∧ w'.cell? ⟨K5, 1, none⟩ = some (.slice v5.no v5.n.length v5.nc) ∧ w'.cell? ⟨K5, 2, none⟩ = some (.slice v5.mo v5.cs.length v5.mc) ∧ w'.cell? ⟨K5, 3, none⟩ = some (.slice v5.eo v5.e.length v5.ec) ∧ w'.cell? ⟨w.heap.size, 0, none⟩ = some (.int .i64 u0.id) ∧ w'.cell? ⟨w.heap.size, 1, none⟩ = some (.slice u0.no u0.n.length u0.nc) ∧ w'.cell? ⟨w.heap.size, 2, none⟩ = some (.slice u0.mo u0.cs.length u0.mc) ∧ w'.cell? ⟨w.heap.size, 3, none⟩ = some (.slice u0.eo u0.e.length u0.ec))
    (first | exact ⟨H9.out.b5.all.1, H9.out.b5.all.2.1, H9.out.b5.all.2.2.1, H9.out.b5.all.2.2.2, (HA.out.call H9.out.h.below).box.all⟩ | exact ⟨HAA.out.b5.all.1, HAA.out.b5.all.2.1, HAA.out.b5.all.2.2.1, HAA.out.b5.all.2.2.2, (HA.out.call HAA.out.h.below).box.all⟩ | exact ⟨HAB.out.b5.all.1, HAB.out.b5.all.2.1, HAB.out.b5.all.2.2.1, HAB.out.b5.all.2.2.2, (HA.out.call HAB.out.h.below).box.all⟩)
    (first
      | (go_at_call 58; (with_reducible refine (HTO.out _ (HA.out.call H9.out.h.below).below).mono ?_); rintro e w11 ⟨v9, hv9, rfl, o9, b9⟩; have HV9 := Lib.hid hv9; have HR9 := Lib.hid (o9.rd (by rw [hv9]; exact HS.out)); have HAA := Lib.hid (H9.out.call b9); clear b9 o9 hv9; unfold mvVal)
      | (go_at_call 61; (with_reducible refine (HEQ.out _ _ _ _ HV5.out HV9.out (HAA.out.r5 HS5.out) HR9.out).mono ?_); rintro e w12 ⟨rfl, bA⟩; have HAB := Lib.hid (HAA.out.call bA); clear bA))
  clear H8 H9 HAA HR9 HV9
  obtain ⟨q0, q1, q2, q3⟩ := HAB.out.b5.all
  go_wp2_with fail
  refine (HMA.out _ _ _ _ _ _ _ _ HAB.out HS5.out).mono ?_
  rintro e w13 ⟨rfl, h⟩
  have g3 : ¬ ((markTot v5 : Nat) : Int) < 0 := by omega
  generalize ((markTot v5 : Nat) : Int) = z5 at g3 ⊢
  have H := h
  clear q0 q1 q2 q3 HAB h HMA
  go_wp2_with fail
  refine (eq_yes _ _ _ _ _ _ _ _ (H.rdI 0 rfl) (H.rdI 1 rfl) (by omega)).mono ?_
  rintro e w14 ⟨rfl, b⟩
  replace H := H.still b
  clear b
  go_wp2_with fail
  refine (mark_own _ _ _ _ _ _ _ rfl (H.getI 0 rfl) (by omega) (by omega) (by omega)).mono ?_
  rintro e w15 ⟨rfl, o, g⟩
  replace H := H.mark (q := ints 2 (Value.slice p7 r0.length c7) (marks (1) r0.length)) [] rfl o g
  clear o g
  go_wp2_with fail
  have hh := H.rdI 0 rfl
  rw [marks_len] at hh
  refine (held_yes _ _ _ _ _ hh (by omega) (by omega) (by omega)).mono ?_
  rintro e w' ⟨rfl, rfl⟩
  clear hh
  have HH := Lib.hid H
  clear H
  have HG := (HA.out.call HH.out.below)
  obtain ⟨q0, q1, q2, q3⟩ := HG.box.all
  go_wp2_with fail
  refine (HTO.out _ HG.below).mono ?_
  rintro e w17 ⟨v10, hv10, rfl, o10, b10⟩
  have HV10 := Lib.hid hv10
  have HR10 := Lib.hid (o10.rd (by rw [hv10]; exact HS.out))
  have HD2 := Lib.hid (HH.out.still b10)
  clear q0 q1 q2 q3 HG HH o10 b10 hv10
  unfold mvVal
  go_wp2_with fail
  refine (HCI.out _ _ HV10.out HR10.out).mono ?_
  rintro e w18 m11
  obtain ⟨p11, c11, rfl, o11, -, b11⟩ := m11.get
  have H := HD2.out.makeI o11 b11
  clear HR10 HD2 o11 b11 m11
  go_wp2_with fail
  refine (eq_yes _ _ _ _ _ _ _ _ (H.rdI 0 rfl) (H.rdI 2 rfl) (by omega)).mono ?_
  rintro e w20 ⟨rfl, b⟩
  replace H := H.still b
  clear b
  go_wp2_with fail
  have hh := H.rdI 1 rfl
  rw [marks_len] at hh
  refine (held_yes _ _ _ _ _ hh (by omega) (by omega) (by omega)).mono ?_
  rintro e w' ⟨rfl, rfl⟩
  clear hh
  go_wp2_with fail
  go_ret
  exact ⟨rfl, (HA.out.call H.below).below⟩
end Go.Proofs.YthihjhidjnadaaaGreat.fnExactGapsOf
