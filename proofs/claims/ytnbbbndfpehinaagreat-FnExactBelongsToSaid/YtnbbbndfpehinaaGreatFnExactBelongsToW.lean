/-
  The walk of laws.FnExactBelongsTo: at every input it returns true and writes nothing that was there.
-/
import Derived.Test.YtnbbbndfpehinaaGreatRows
import Derived.Test.YtnbbbndfpehinaaGreatP15A
import Derived.Test.YtnbbbndfpehinaaGreatP15M
import Derived.Test.YtnbbbndfpehinaaGreatP15N
import Derived.Test.YtnbbbndfpehinaaGreatP15S
import Derived.Test.YtnbbbndfpehinaaGreatP15L
import Derived.Test.YtnbbbndfpehinaaGreatP15Z
import Derived.Test.YtnbbbndfpehinaaGreatP15I
import Derived.Test.YtnbbbndfpehinaaGreatP15O
import Derived.Test.YtnbbbndfpehinaaGreatP15U
import Derived.Test.YtnbbbndfpehinaaGreatP15X
import Derived.Test.YtnbbbndfpehinaaGreatP15Y
import Derived.Test.YtnbbbndfpehinaaGreatP15T
import Derived.Test.YtnbbbndfpehinaaGreatP15V
import Derived.WalkKit
import Derived.ProofKit
import Derived.OpenShut
import Derived.ShutString
import Derived.ChangeOld
import Derived.Below
import Derived.Lib.SmallJoins
namespace Go.Proofs.YtnbbbndfpehinaaGreat.fnExactBelongsTo
open Go.ChangeShapes Go.WideShapes Go.ChangeAt Go.RowKit Go.Joins
open Go.ChangeMaps (open_string shut_string)
set_option linter.unusedVariables false
set_option linter.unusedSimpArgs false in
set_option maxRecDepth 100000 in
set_option maxHeartbeats 8000000 in
theorem walk (u0 : Mv) (s1_0 : Int) (s1_1 : Int) (s1_2 : Int) (s1_3 : Int) (s1_4 : Int) (w : World) (w0 : MeRow w u0) (w1_0 : (Lit.int .i64 s1_0).wf = true) (w1_1 : (Lit.int .i64 s1_1).wf = true) (w1_2 : (Lit.int .i64 s1_2).wf = true) (w1_3 : (Lit.int .i64 s1_3).wf = true) (w1_4 : (Lit.int .i64 s1_4).wf = true) :
    Calls Tryz.prog 6 #[mvVal u0, .agg #[.int .i64 s1_0, .int .i64 s1_1, .int .i64 s1_2, .int .i64 s1_3, .int .i64 s1_4]] w fun e w' => e = .returned (.bool true) ∧ Below w.heap.size w w' := by
  obtain ⟨x, ht, hm, hrr, hss, hkk⟩ : ∃ x : Ss, x.t = s1_0 ∧ x.m = s1_1 ∧ x.r = s1_2 ∧ x.s = s1_3 ∧ x.k = s1_4 := ⟨⟨s1_0, s1_1, s1_2, s1_3, s1_4⟩, rfl, rfl, rfl, rfl, rfl⟩
  subst ht hm hrr hss hkk
  have HSZ := Lib.hid (fun W (hW : Below w.heap.size w W) => szMe_any u0 W (w0.below hW))
  have HA := Lib.hid (ArgLu.start (w := w) (u := u0) (x := x))
  by_cases hneg : szMe u0.me < 0
  · clear w0
    unfold mvVal at HSZ ⊢
    go_enter Tryz.func6, Tryz.ntmps6
    go_upto_region 1 with fail
    generalize (w.alloc (.cells #[.int .i64 u0.id, .slice u0.no u0.n.length u0.nc, .slice u0.mo u0.cs.length u0.mc, .slice u0.eo u0.e.length u0.ec] 66)).alloc (.cells #[.int .i64 x.t, .int .i64 x.m, .int .i64 x.r, .int .i64 x.s, .int .i64 x.k] 67) = w1 at HA ⊢
    obtain ⟨q0, q1, q2, q3⟩ := HA.out.arg.box.all
    go_wp2_with fail
    refine (HSZ.out _ HA.out.arg.below).mono ?_
    rintro e w2 ⟨rfl, b2⟩
    clear q0 q1 q2 q3
    generalize szMe u0.me = left at hneg ⊢
    go_wp2_with fail
    go_ret
    exact ⟨rfl, below_two HA.out.arg.below b2⟩
  have hs := szMe_ok hneg
  have HS := Lib.hid hs
  have HRD := Lib.hid (fun W (hW : Below w.heap.size w W) => (hs.rd w0).below hW)
  have HTO := Lib.hid (fun W hW => toMe_any u0 W (HRD.out W hW))
  obtain ⟨q0, hF⟩ : ∃ q0, belongsTo u0.me x = q0 := ⟨_, rfl⟩
  have HCS := Lib.hid (fun W v (hv : v.me = u0.me) (hW : RdMe W v) => (show Calls Tryz.prog 38 #[mvVal v, ssVal x] W fun e w' => e = .returned (.bool q0) ∧ Below W.heap.size W w' from by
    have h := sBelongsTo_any v x W hW
    rw [hv, hF] at h
    exact h))
  have HCI := Lib.hid (fun W v (hv : v.me = u0.me) (hW : RdMe W v) => (show Calls Tryz.prog 17 #[mvVal v, ssVal x] W fun e w' => e = .returned (.bool q0) ∧ Below W.heap.size W w' from by
    have h := belongsTo_any v x W hW
    rw [hv, hF] at h
    exact h))
  have HEQ := Lib.hid (fun W a b (ha : a.me = u0.me) (hb : b.me = u0.me) (hra : RdMe W a) (hrb : RdMe W b) => eqMe_yes a b W hra hrb (ha.trans hb.symm))
  have hne0 : (q0 != q0) = false := bne_self_eq_false _
  generalize szMe u0.me = left at HSZ hneg
  clear hF hs w0
  unfold mvVal at HSZ HCS HCI HEQ ⊢
  unfold mvVal at HTO
  unfold ssVal at HCS HCI
  go_enter Tryz.func6, Tryz.ntmps6
  go_upto_region 1 with fail
  generalize (w.alloc (.cells #[.int .i64 u0.id, .slice u0.no u0.n.length u0.nc, .slice u0.mo u0.cs.length u0.mc, .slice u0.eo u0.e.length u0.ec] 66)).alloc (.cells #[.int .i64 x.t, .int .i64 x.m, .int .i64 x.r, .int .i64 x.s, .int .i64 x.k] 67) = w1 at HA ⊢
  obtain ⟨q0, q1, q2, q3⟩ := HA.out.arg.box.all
  go_wp2_with fail
  refine (HSZ.out _ HA.out.arg.below).mono ?_
  rintro e w2 ⟨rfl, b2⟩
  have HA2 := Lib.hid (HA.out.call b2)
  clear q0 q1 q2 q3 HA b2 HSZ
  go_upto_region 5 with fail
  have HA2d := Lib.hid (HA2.out.call (Below.drew (Below.refl w2.heap.size w2)))
  go_region_held3 (fun w' => w'.cell? ⟨w.heap.size, 0, none⟩ = some (.int .i64 u0.id) ∧ w'.cell? ⟨w.heap.size, 1, none⟩ = some (.slice u0.no u0.n.length u0.nc) ∧ w'.cell? ⟨w.heap.size, 2, none⟩ = some (.slice u0.mo u0.cs.length u0.mc) ∧ w'.cell? ⟨w.heap.size, 3, none⟩ = some (.slice u0.eo u0.e.length u0.ec) ∧ w'.cell? ⟨w.heap.size + 1, 0, none⟩ = some (.int .i64 x.t) ∧ w'.cell? ⟨w.heap.size + 1, 1, none⟩ = some (.int .i64 x.m) ∧ w'.cell? ⟨w.heap.size + 1, 2, none⟩ = some (.int .i64 x.r) ∧ w'.cell? ⟨w.heap.size + 1, 3, none⟩ = some (.int .i64 x.s) ∧ w'.cell? ⟨w.heap.size + 1, 4, none⟩ = some (.int .i64 x.k))
    (first | exact HA2d.out.all | exact HA3.out.all | exact HA4.out.all | exact HA5.out.all)
    (first
      | (go_at_call 39; (with_reducible refine (HTO.out _ HA2d.out.arg.below).mono ?_); rintro e w3 ⟨v3, hv3, rfl, o3, b3⟩; have HV3 := Lib.hid hv3; have HR3 := Lib.hid (o3.rd (by rw [hv3]; exact HS.out)); have HA3 := Lib.hid (HA2d.out.call b3); clear b3 o3 hv3; unfold mvVal)
      | (go_at_call 40; (with_reducible refine (toState_any _ _ _ _ _ _).mono ?_); rintro e w4 ⟨rfl, b4⟩; have HR4 := Lib.hid (HR3.out.below b4); have HA4 := Lib.hid (HA3.out.call b4); clear b4)
      | (go_at_call 38; (with_reducible refine (HCS.out _ _ HV3.out HR4.out).mono ?_); rintro e w5 ⟨rfl, b5⟩; have HA5 := Lib.hid (HA4.out.call b5); clear b5))
  obtain ⟨q0, q1, q2, q3⟩ := HA5.out.arg.box.all
  go_wp2_with fail
  refine (HTO.out _ HA5.out.arg.below).mono ?_
  rintro e w6 ⟨v5, hv5, rfl, o5, b6⟩
  have HV5 := Lib.hid hv5
  have HA6 := Lib.hid (HA5.out.call b6)
  have HX := Lib.hid (VarSt.start (o5.rd (by rw [hv5]; exact HS.out)))
  have HA7 := Lib.hid (HA6.out.call ((Below.refl w6.heap.size w6).alloc (Nat.le_refl _) (.cells #[.int .i64 v5.id, .slice v5.no v5.n.length v5.nc, .slice v5.mo v5.cs.length v5.mc, .slice v5.eo v5.e.length v5.ec] 28)))
  obtain ⟨X, hX⟩ : ∃ X, X = w6.heap.size := ⟨_, rfl⟩
  rw [← hX] at HX
  clear q0 q1 q2 q3 HA6 b6 o5 hv5
  unfold mvVal
  go_upto_region 7 with fail
  rw [← hX]
  clear hX
  generalize w6.alloc (.cells #[.int .i64 v5.id, .slice v5.no v5.n.length v5.nc, .slice v5.mo v5.cs.length v5.mc, .slice v5.eo v5.e.length v5.ec] 28) = w7 at HX HA7 ⊢
  have HA7d := Lib.hid (HA7.out.call (Below.drew (Below.refl w7.heap.size w7)))
  have HX7d := Lib.hid (HX.out.call (Below.drew (Below.refl w7.heap.size w7)))
  go_region_held3 (fun w' => w'.cell? ⟨X, 0, none⟩ = some (.int .i64 v5.id) ∧ w'.cell? ⟨X, 1, none⟩ = some (.slice v5.no v5.n.length v5.nc) ∧ w'.cell? ⟨X, 2, none⟩ = some (.slice v5.mo v5.cs.length v5.mc) ∧ w'.cell? ⟨X, 3, none⟩ = some (.slice v5.eo v5.e.length v5.ec) ∧ w'.cell? ⟨w.heap.size, 0, none⟩ = some (.int .i64 u0.id) ∧ w'.cell? ⟨w.heap.size, 1, none⟩ = some (.slice u0.no u0.n.length u0.nc) ∧ w'.cell? ⟨w.heap.size, 2, none⟩ = some (.slice u0.mo u0.cs.length u0.mc) ∧ w'.cell? ⟨w.heap.size, 3, none⟩ = some (.slice u0.eo u0.e.length u0.ec) ∧ w'.cell? ⟨w.heap.size + 1, 0, none⟩ = some (.int .i64 x.t) ∧ w'.cell? ⟨w.heap.size + 1, 1, none⟩ = some (.int .i64 x.m) ∧ w'.cell? ⟨w.heap.size + 1, 2, none⟩ = some (.int .i64 x.r) ∧ w'.cell? ⟨w.heap.size + 1, 3, none⟩ = some (.int .i64 x.s) ∧ w'.cell? ⟨w.heap.size + 1, 4, none⟩ = some (.int .i64 x.k))
    (first | exact ⟨HX7d.out.box.all.1, HX7d.out.box.all.2.1, HX7d.out.box.all.2.2.1, HX7d.out.box.all.2.2.2, HA7d.out.all⟩ | exact ⟨HX8.out.box.all.1, HX8.out.box.all.2.1, HX8.out.box.all.2.2.1, HX8.out.box.all.2.2.2, HA8.out.all⟩ | exact ⟨HX9.out.box.all.1, HX9.out.box.all.2.1, HX9.out.box.all.2.2.1, HX9.out.box.all.2.2.2, HA9.out.all⟩)
    (first
      | (go_at_call 40; (with_reducible refine (toState_any _ _ _ _ _ _).mono ?_); rintro e w8 ⟨rfl, b8⟩; have HA8 := Lib.hid (HA7d.out.call b8); have HX8 := Lib.hid (HX7d.out.call b8); clear b8)
      | (go_at_call 17; (with_reducible refine (HCI.out _ _ HV5.out HX8.out.rd).mono ?_); rintro e w9 ⟨rfl, b9⟩; have HA9 := Lib.hid (HA8.out.call b9); have HX9 := Lib.hid (HX8.out.call b9); clear b9))
  go_wp2_with fail
  have HAd := Lib.hid (HA9.out.call (Below.drew (Below.refl w9.heap.size w9)))
  have HXd := Lib.hid (HX9.out.call (Below.drew (Below.refl w9.heap.size w9)))
  go_region_held3 (fun w' => w'.cell? ⟨X, 0, none⟩ = some (.int .i64 v5.id) ∧ w'.cell? ⟨X, 1, none⟩ = some (.slice v5.no v5.n.length v5.nc) ∧ w'.cell? ⟨X, 2, none⟩ = some (.slice v5.mo v5.cs.length v5.mc) ∧ w'.cell? ⟨X, 3, none⟩ = some (.slice v5.eo v5.e.length v5.ec) ∧ w'.cell? ⟨w.heap.size, 0, none⟩ = some (.int .i64 u0.id) ∧ w'.cell? ⟨w.heap.size, 1, none⟩ = some (.slice u0.no u0.n.length u0.nc) ∧ w'.cell? ⟨w.heap.size, 2, none⟩ = some (.slice u0.mo u0.cs.length u0.mc) ∧ w'.cell? ⟨w.heap.size, 3, none⟩ = some (.slice u0.eo u0.e.length u0.ec) ∧ w'.cell? ⟨w.heap.size + 1, 0, none⟩ = some (.int .i64 x.t) ∧ w'.cell? ⟨w.heap.size + 1, 1, none⟩ = some (.int .i64 x.m) ∧ w'.cell? ⟨w.heap.size + 1, 2, none⟩ = some (.int .i64 x.r) ∧ w'.cell? ⟨w.heap.size + 1, 3, none⟩ = some (.int .i64 x.s) ∧ w'.cell? ⟨w.heap.size + 1, 4, none⟩ = some (.int .i64 x.k))
    (first | exact ⟨HXd.out.box.all.1, HXd.out.box.all.2.1, HXd.out.box.all.2.2.1, HXd.out.box.all.2.2.2, HAd.out.all⟩ | exact ⟨HXa.out.box.all.1, HXa.out.box.all.2.1, HXa.out.box.all.2.2.1, HXa.out.box.all.2.2.2, HAa.out.all⟩ | exact ⟨HXb.out.box.all.1, HXb.out.box.all.2.1, HXb.out.box.all.2.2.1, HXb.out.box.all.2.2.2, HAb.out.all⟩)
    (first
      | (go_at_call 39; (with_reducible refine (HTO.out _ HAd.out.arg.below).mono ?_); rintro e wa ⟨va, hva, rfl, oa, ba⟩; have HVa := Lib.hid hva; have HRa := Lib.hid (oa.rd (by rw [hva]; exact HS.out)); have HAa := Lib.hid (HAd.out.call ba); have HXa := Lib.hid (HXd.out.call ba); clear ba oa hva; unfold mvVal)
      | (go_at_call 41; (with_reducible refine (HEQ.out _ _ _ HV5.out HVa.out HXa.out.rd HRa.out).mono ?_); rintro e wb ⟨rfl, bb⟩; have HAb := Lib.hid (HAa.out.call bb); have HXb := Lib.hid (HXa.out.call bb); clear bb))
  go_wp2_with fail
  go_ret
  exact ⟨rfl, HAb.out.arg.below⟩
end Go.Proofs.YtnbbbndfpehinaaGreat.fnExactBelongsTo
