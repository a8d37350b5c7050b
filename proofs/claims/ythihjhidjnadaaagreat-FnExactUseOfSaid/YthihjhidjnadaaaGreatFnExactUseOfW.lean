/-
  The walk of laws.FnExactUseOf: at every input it returns true and writes nothing that was there.
-/
import Derived.Test.YthihjhidjnadaaaGreatRows
import Derived.Test.YthihjhidjnadaaaGreatP20A
import Derived.Test.YthihjhidjnadaaaGreatP20N
import Derived.Test.YthihjhidjnadaaaGreatP20S
import Derived.Test.YthihjhidjnadaaaGreatP20M
import Derived.Test.YthihjhidjnadaaaGreatP20Z
import Derived.Test.YthihjhidjnadaaaGreatP20I
import Derived.Test.YthihjhidjnadaaaGreatP20U
import Derived.Test.YthihjhidjnadaaaGreatP20T
import Derived.Test.YthihjhidjnadaaaGreatP20X
import Derived.Test.YthihjhidjnadaaaGreatP20V
import Derived.Test.YthihjhidjnadaaaGreatP20O
import Derived.Test.YthihjhidjnadaaaGreatP20L
import Derived.Test.YthihjhidjnadaaaGreatP20Y
import Derived.Test.YthihjhidjnadaaaGreatP20F
import Derived.Test.YthihjhidjnadaaaGreatP20H
import Derived.WalkKit
import Derived.ProofKit
import Derived.OpenShut
import Derived.ShutString
import Derived.ChangeOld
import Derived.Below
import Derived.Lib.SmallJoins
namespace Go.Proofs.YthihjhidjnadaaaGreat.fnExactUseOf
open Go.ChangeShapes Go.WideShapes Go.ChangeAt Go.RowKit Go.Joins
open Go.ChangeMaps (open_string shut_string)
set_option linter.unusedVariables false
set_option maxRecDepth 100000 in
set_option maxHeartbeats 4000000 in
theorem walk (u0 : Mv) (a1 : Int) (w : World) (w0 : MeRow w u0) (w1 : (Lit.int .i64 a1).wf = true) :
    Calls Tryz.prog 13 #[mvVal u0, .int .i64 a1] w fun e w' => e = .returned (.bool true) ∧ Below w.heap.size w w' := by
  have HSZ := Lib.hid (fun W (hW : Below w.heap.size w W) => szMe_any u0 W (w0.below hW))
  have HA := Lib.hid (ArgSt.start w u0)
  by_cases hneg : szMe u0.me < 0
  · clear w0
    unfold mvVal at HSZ ⊢
    go_enter Tryz.func13, Tryz.ntmps13
    go_upto_region 1 with fail
    generalize w.alloc (.cells #[.int .i64 u0.id, .slice u0.no u0.n.length u0.nc, .slice u0.mo u0.cs.length u0.mc, .slice u0.eo u0.e.length u0.ec] 75) = w1 at HA ⊢
    obtain ⟨q0, q1, q2, q3⟩ := HA.out.box.all
    go_wp2_with fail
    refine (HSZ.out _ HA.out.below).mono ?_
    rintro e w2 ⟨rfl, b2⟩
    clear q0 q1 q2 q3
    generalize szMe u0.me = left at hneg ⊢
    go_wp2_with fail
    go_ret
    exact ⟨rfl, below_two HA.out.below b2⟩
  have hs := szMe_ok hneg
  have HS := Lib.hid hs
  have HRD := Lib.hid (fun W (hW : Below w.heap.size w W) => (hs.rd w0).below hW)
  have HTO := Lib.hid (fun W hW => toMe_any u0 W (HRD.out W hW))
  obtain ⟨r0, r1, hF⟩ : ∃ r0 r1, useOf u0.me a1 = (r0, r1) := ⟨_, _, rfl⟩
  have HCS := Lib.hid (fun W v (hv : v.me = u0.me) (hW : RdMe W v) => (show Calls Tryz.prog 46 #[mvVal v, .int .i64 a1] W fun e w' => e = .returned (.tuple #[.int .i64 r0, .int .i64 r1]) ∧ Below W.heap.size W w' from by
    have h := sUseOf_any v a1 W hW
    rw [hv, hF] at h
    exact h))
  have HCI := Lib.hid (fun W v (hv : v.me = u0.me) (hW : RdMe W v) => (show Calls Tryz.prog 45 #[mvVal v, .int .i64 a1] W fun e w' => e = .returned (.tuple #[.int .i64 r0, .int .i64 r1]) ∧ Below W.heap.size W w' from by
    have h := useOf_any v a1 W hW
    rw [hv, hF] at h
    exact h))
  have HEQ := Lib.hid (fun W a b (ha : a.me = u0.me) (hb : b.me = u0.me) (hra : RdMe W a) (hrb : RdMe W b) => eqMe_yes a b W hra hrb (ha.trans hb.symm))
  have hne0 : (r0 != r0) = false := bne_self_eq_false _
  have hne1 : (r1 != r1) = false := bne_self_eq_false _
  generalize szMe u0.me = left at HSZ hneg
  clear hF hs w0
  unfold mvVal at HSZ HCS HCI HEQ ⊢
  unfold mvVal at HTO
  go_enter Tryz.func13, Tryz.ntmps13
  go_upto_region 1 with fail
  generalize w.alloc (.cells #[.int .i64 u0.id, .slice u0.no u0.n.length u0.nc, .slice u0.mo u0.cs.length u0.mc, .slice u0.eo u0.e.length u0.ec] 75) = w1 at HA ⊢
  obtain ⟨q0, q1, q2, q3⟩ := HA.out.box.all
  go_wp2_with fail
  refine (HSZ.out _ HA.out.below).mono ?_
  rintro e w2 ⟨rfl, b2⟩
  have HA2 := Lib.hid (HA.out.call b2)
  clear q0 q1 q2 q3 HA b2 HSZ
  obtain ⟨q0, q1, q2, q3⟩ := HA2.out.box.all
  go_wp2_with fail
  refine (HTO.out _ HA2.out.below).mono ?_
  rintro e w3 ⟨v3, hv3, rfl, o3, b3⟩
  have HV3 := Lib.hid hv3
  have HR3 := Lib.hid (o3.rd (by rw [hv3]; exact HS.out))
  have HA3 := Lib.hid (HA2.out.call b3)
  clear q0 q1 q2 q3 HA2 b3 o3 hv3
  unfold mvVal
  go_wp2_with fail
  refine (HCS.out _ _ HV3.out HR3.out).mono ?_
  rintro e w4 ⟨rfl, b4⟩
  have HA4 := Lib.hid (HA3.out.call b4)
  clear HA3 b4 HR3 HV3
  obtain ⟨q0, q1, q2, q3⟩ := HA4.out.box.all
  go_wp2_with fail
  refine (HTO.out _ HA4.out.below).mono ?_
  rintro e w5 ⟨v5, hv5, rfl, o5, b5⟩
  have HV5 := Lib.hid hv5
  have HA5 := Lib.hid (HA4.out.call b5)
  have HX := Lib.hid (VarSt.start (o5.rd (by rw [hv5]; exact HS.out)))
  have HA6 := Lib.hid (HA5.out.call ((Below.refl w5.heap.size w5).alloc (Nat.le_refl _) (.cells #[.int .i64 v5.id, .slice v5.no v5.n.length v5.nc, .slice v5.mo v5.cs.length v5.mc, .slice v5.eo v5.e.length v5.ec] 28)))
  obtain ⟨X, hX⟩ : ∃ X, X = w5.heap.size := ⟨_, rfl⟩
  rw [← hX] at HX
  clear q0 q1 q2 q3 HA4 HA5 b5 o5 hv5
  unfold mvVal
  go_upto_region 7 with fail
  rw [← hX]
  clear hX
  generalize w5.alloc (.cells #[.int .i64 v5.id, .slice v5.no v5.n.length v5.nc, .slice v5.mo v5.cs.length v5.mc, .slice v5.eo v5.e.length v5.ec] 28) = w6 at HX HA6 ⊢
  obtain ⟨q0, q1, q2, q3⟩ := HX.out.box.all
  go_wp2_with fail
  refine (HCI.out _ _ HV5.out HX.out.rd).mono ?_
  rintro e w7 ⟨rfl, b7⟩
  have HA7 := Lib.hid (HA6.out.call b7)
  have HX7 := Lib.hid (HX.out.call b7)
  clear q0 q1 q2 q3 HA6 HX b7
  go_wp2_with fail
  have HA8 := Lib.hid (HA7.out.call (Below.drew (Below.refl w7.heap.size w7)))
  have HX8 := Lib.hid (HX7.out.call (Below.drew (Below.refl w7.heap.size w7)))
  go_region_held3 (fun w' => w'.cell? ⟨X, 0, none⟩ = some (.int .i64 v5.id) ∧ w'.cell? ⟨X, 1, none⟩ = some (.slice v5.no v5.n.length v5.nc) ∧ w'.cell? ⟨X, 2, none⟩ = some (.slice v5.mo v5.cs.length v5.mc) ∧ w'.cell? ⟨X, 3, none⟩ = some (.slice v5.eo v5.e.length v5.ec) ∧ w'.cell? ⟨w.heap.size, 0, none⟩ = some (.int .i64 u0.id) ∧ w'.cell? ⟨w.heap.size, 1, none⟩ = some (.slice u0.no u0.n.length u0.nc) ∧ w'.cell? ⟨w.heap.size, 2, none⟩ = some (.slice u0.mo u0.cs.length u0.mc) ∧ w'.cell? ⟨w.heap.size, 3, none⟩ = some (.slice u0.eo u0.e.length u0.ec))
    (first | exact ⟨HX8.out.box.all.1, HX8.out.box.all.2.1, HX8.out.box.all.2.2.1, HX8.out.box.all.2.2.2, HA8.out.box.all⟩ | exact ⟨HX9.out.box.all.1, HX9.out.box.all.2.1, HX9.out.box.all.2.2.1, HX9.out.box.all.2.2.2, HA9.out.box.all⟩ | exact ⟨HXA.out.box.all.1, HXA.out.box.all.2.1, HXA.out.box.all.2.2.1, HXA.out.box.all.2.2.2, HAA.out.box.all⟩)
    (first
      | (go_at_call 58; (with_reducible refine (HTO.out _ HA8.out.below).mono ?_); rintro e w9 ⟨v9, hv9, rfl, o9, b9⟩; have HV9 := Lib.hid hv9; have HR9 := Lib.hid (o9.rd (by rw [hv9]; exact HS.out)); have HA9 := Lib.hid (HA8.out.call b9); have HX9 := Lib.hid (HX8.out.call b9); clear b9 o9 hv9; unfold mvVal)
      | (go_at_call 61; (with_reducible refine (HEQ.out _ _ _ HV5.out HV9.out HX9.out.rd HR9.out).mono ?_); rintro e wA ⟨rfl, bA⟩; have HAA := Lib.hid (HA9.out.call bA); have HXA := Lib.hid (HX9.out.call bA); clear bA))
  go_wp2_with fail
  go_ret
  exact ⟨rfl, HAA.out.below⟩
  
end Go.Proofs.YthihjhidjnadaaaGreat.fnExactUseOf
