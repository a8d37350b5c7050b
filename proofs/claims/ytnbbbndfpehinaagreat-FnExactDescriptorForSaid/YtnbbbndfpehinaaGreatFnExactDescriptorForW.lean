/-
  The walk of laws.FnExactDescriptorFor: at every input it returns true and writes nothing that was there.
-/
import Derived.Test.YtnbbbndfpehinaaGreatRows
import Derived.Test.YtnbbbndfpehinaaGreatP15A
import Derived.Test.YtnbbbndfpehinaaGreatP15M
import Derived.Test.YtnbbbndfpehinaaGreatP15N
import Derived.Test.YtnbbbndfpehinaaGreatP15S
import Derived.Test.YtnbbbndfpehinaaGreatP15L
import Derived.Test.YtnbbbndfpehinaaGreatP15Z
import Derived.Test.YtnbbbndfpehinaaGreatP15I
import Derived.Test.YtnbbbndfpehinaaGreatP15O
import Derived.Test.YtnbbbndfpehinaaGreatP15U
import Derived.Test.YtnbbbndfpehinaaGreatP15X
import Derived.Test.YtnbbbndfpehinaaGreatP15Y
import Derived.Test.YtnbbbndfpehinaaGreatP15T
import Derived.Test.YtnbbbndfpehinaaGreatP15V
import Derived.WalkKit
import Derived.ProofKit
import Derived.OpenShut
import Derived.ShutString
import Derived.ChangeOld
import Derived.Below
import Derived.Lib.SmallJoins
namespace Go.Proofs.YtnbbbndfpehinaaGreat.fnExactDescriptorFor
open Go.ChangeShapes Go.WideShapes Go.ChangeAt Go.RowKit Go.Joins
open Go.ChangeMaps (open_string shut_string)
set_option linter.unusedVariables false
set_option linter.unusedSimpArgs false in
set_option maxRecDepth 100000 in
set_option maxHeartbeats 8000000 in
theorem walk (u0 : Mv) (s1_0 : Int) (s1_1 : Int) (s1_2 : Int) (s1_3 : Int) (s1_4 : Int) (w : World) (w0 : MeRow w u0) (w1_0 : (Lit.int .i64 s1_0).wf = true) (w1_1 : (Lit.int .i64 s1_1).wf = true) (w1_2 : (Lit.int .i64 s1_2).wf = true) (w1_3 : (Lit.int .i64 s1_3).wf = true) (w1_4 : (Lit.int .i64 s1_4).wf = true) :
    Calls Tryz.prog 7 #[mvVal u0, .agg #[.int .i64 s1_0, .int .i64 s1_1, .int .i64 s1_2, .int .i64 s1_3, .int .i64 s1_4]] w fun e w' => e = .returned (.bool true) ∧ Below w.heap.size w w' := by
  obtain ⟨x, ht, hm, hrr, hss, hkk⟩ : ∃ x : Ss, x.t = s1_0 ∧ x.m = s1_1 ∧ x.r = s1_2 ∧ x.s = s1_3 ∧ x.k = s1_4 := ⟨⟨s1_0, s1_1, s1_2, s1_3, s1_4⟩, rfl, rfl, rfl, rfl, rfl⟩
  subst ht hm hrr hss hkk
  have HSZ := Lib.hid (fun W (hW : Below w.heap.size w W) => szMe_any u0 W (w0.below hW))
  have HA := Lib.hid (ArgLu.start (w := w) (u := u0) (x := x))
  by_cases hneg : szMe u0.me < 0
  · clear w0
    unfold mvVal at HSZ ⊢
    go_enter Tryz.func7, Tryz.ntmps7
    go_upto_region 1 with fail
    generalize (w.alloc (.cells #[.int .i64 u0.id, .slice u0.no u0.n.length u0.nc, .slice u0.mo u0.cs.length u0.mc, .slice u0.eo u0.e.length u0.ec] 66)).alloc (.cells #[.int .i64 x.t, .int .i64 x.m, .int .i64 x.r, .int .i64 x.s, .int .i64 x.k] 67) = w1 at HA ⊢
    obtain ⟨q0, q1, q2, q3⟩ := HA.out.arg.box.all
    go_wp2_with fail
    refine (HSZ.out _ HA.out.arg.below).mono ?_
    rintro e w2 ⟨rfl, b2⟩
    clear q0 q1 q2 q3
    generalize szMe u0.me = left at hneg ⊢
    go_wp2_with fail
    go_ret
    exact ⟨rfl, below_two HA.out.arg.below b2⟩
  have hs := szMe_ok hneg
  have HS := Lib.hid hs
  have HRD := Lib.hid (fun W (hW : Below w.heap.size w W) => (hs.rd w0).below hW)
  have HTO := Lib.hid (fun W hW => toMe_any u0 W (HRD.out W hW))
  obtain ⟨y, q1, hF⟩ : ∃ y q1, descriptorFor u0.me x = (y, q1) := ⟨_, _, rfl⟩
  have HCS := Lib.hid (fun W v (hv : v.me = u0.me) (hW : RdMe W v) => (show Calls Tryz.prog 25 #[mvVal v, ssVal x] W fun e w' => e = .returned (.tuple #[dsVal y, .int .i64 q1]) ∧ Below W.heap.size W w' from by
    have h := sDescriptorFor_any v x W hW
    rw [hv, hF] at h
    exact h))
  have HCI := Lib.hid (fun W v (hv : v.me = u0.me) (hW : RdMe W v) => (show Calls Tryz.prog 24 #[mvVal v, ssVal x] W fun e w' => e = .returned (.tuple #[dsVal y, .int .i64 q1]) ∧ Below W.heap.size W w' from by
    have h := descriptorFor_any v x W hW
    rw [hv, hF] at h
    exact h))
  have HEQ := Lib.hid (fun W a b (ha : a.me = u0.me) (hb : b.me = u0.me) (hra : RdMe W a) (hrb : RdMe W b) => eqMe_yes a b W hra hrb (ha.trans hb.symm))
  have hne1 : (q1 != q1) = false := bne_self_eq_false _
  generalize szMe u0.me = left at HSZ hneg
  clear hF hs w0
  unfold mvVal at HSZ HCS HCI HEQ ⊢
  unfold mvVal at HTO
  unfold ssVal at HCS HCI
  unfold dsVal at HCS HCI
  go_enter Tryz.func7, Tryz.ntmps7
  go_upto_region 1 with fail
  generalize (w.alloc (.cells #[.int .i64 u0.id, .slice u0.no u0.n.length u0.nc, .slice u0.mo u0.cs.length u0.mc, .slice u0.eo u0.e.length u0.ec] 66)).alloc (.cells #[.int .i64 x.t, .int .i64 x.m, .int .i64 x.r, .int .i64 x.s, .int .i64 x.k] 67) = w1 at HA ⊢
  obtain ⟨q0, q1, q2, q3⟩ := HA.out.arg.box.all
  go_wp2_with fail
  refine (HSZ.out _ HA.out.arg.below).mono ?_
  rintro e w2 ⟨rfl, b2⟩
  have HA2 := Lib.hid (HA.out.call b2)
  clear q0 q1 q2 q3 HA b2 HSZ
  go_upto_region 5 with fail
  have HA2d := Lib.hid (HA2.out.call (Below.drew (Below.refl w2.heap.size w2)))
  go_cut [6, 7] (fun s6 s7 wx => ∃ wy, wy = wx ∧ ∃ J, s6 = .pointer (some ⟨J, 0, none⟩) ∧ s7 = .int .i64 q1 ∧ Hid (ArgLu w wy u0 x) ∧ Hid (DescAt 44 wy J y.node y.kind y.size y.dur y.chg))
  case first =>
    have HA1 := HA2d
    have hq : w2.drew.cell? ⟨w.heap.size, 0, none⟩ = some (.int .i64 u0.id) ∧ w2.drew.cell? ⟨w.heap.size, 1, none⟩ = some (.slice u0.no u0.n.length u0.nc) ∧ w2.drew.cell? ⟨w.heap.size, 2, none⟩ = some (.slice u0.mo u0.cs.length u0.mc) ∧ w2.drew.cell? ⟨w.heap.size, 3, none⟩ = some (.slice u0.eo u0.e.length u0.ec) ∧ w2.drew.cell? ⟨w.heap.size + 1, 0, none⟩ = some (.int .i64 x.t) ∧ w2.drew.cell? ⟨w.heap.size + 1, 1, none⟩ = some (.int .i64 x.m) ∧ w2.drew.cell? ⟨w.heap.size + 1, 2, none⟩ = some (.int .i64 x.r) ∧ w2.drew.cell? ⟨w.heap.size + 1, 3, none⟩ = some (.int .i64 x.s) ∧ w2.drew.cell? ⟨w.heap.size + 1, 4, none⟩ = some (.int .i64 x.k) := HA1.out.all
    refine wp_region_held_drew (S := fun w' => w'.cell? ⟨w.heap.size, 0, none⟩ = some (.int .i64 u0.id) ∧ w'.cell? ⟨w.heap.size, 1, none⟩ = some (.slice u0.no u0.n.length u0.nc) ∧ w'.cell? ⟨w.heap.size, 2, none⟩ = some (.slice u0.mo u0.cs.length u0.mc) ∧ w'.cell? ⟨w.heap.size, 3, none⟩ = some (.slice u0.eo u0.e.length u0.ec) ∧ w'.cell? ⟨w.heap.size + 1, 0, none⟩ = some (.int .i64 x.t) ∧ w'.cell? ⟨w.heap.size + 1, 1, none⟩ = some (.int .i64 x.m) ∧ w'.cell? ⟨w.heap.size + 1, 2, none⟩ = some (.int .i64 x.r) ∧ w'.cell? ⟨w.heap.size + 1, 3, none⟩ = some (.int .i64 x.s) ∧ w'.cell? ⟨w.heap.size + 1, 4, none⟩ = some (.int .i64 x.k)) (by kernel_rfl) (hq) (fun hHeld => ?_)
    generalize w2.drew = y1 at HA1 hq hHeld ⊢
    refine wpAnyH_take (i := 0) (v := ?_) rfl (by kernel_rfl) (by kernel_rfl) (by kernel_rfl) (fun _ _ _ h => h) (Or.inl ⟨by rfl, ?_⟩) (by assumption) ?_
    rotate_left
    · (intro w hSw; (try dsimp only at hSw); go_simp; (try with_reducible rfl))
    try simp only [List.getElem_toArray, List.getElem_cons_succ, List.getElem_cons_zero, Act.put, List.setIfInBounds_toArray, List.set_cons_zero, List.set_cons_succ]
    refine wpAnyH_take (i := 2) (v := ?_) rfl (by kernel_rfl) (by kernel_rfl) (by kernel_rfl) (fun _ _ _ h => h) (Or.inl ⟨by rfl, ?_⟩) (by assumption) ?_
    rotate_left
    · (intro w hSw; (try dsimp only at hSw); go_simp; (try with_reducible rfl))
    try simp only [List.getElem_toArray, List.getElem_cons_succ, List.getElem_cons_zero, Act.put, List.setIfInBounds_toArray, List.set_cons_zero, List.set_cons_succ]
    refine wpAnyH_ready (rs := [1, 8]) (by kernel_rfl) (by simp) (AllReadyH.cons rfl (fun K hK => ?_) (AllReadyH.cons rfl (fun K hK => ?_) (AllReadyH.nil)))
    · go_simp
      refine (HTO.out _ HA1.out.arg.below).mono ?_
      rintro e y2 ⟨v3, hv3, rfl, o3, b2⟩
      have HV3 := Lib.hid hv3
      have HR2 := Lib.hid (o3.rd (by rw [hv3]; exact HS.out))
      clear o3 hv3
      have HA2 := Lib.hid (HA1.out.call b2)
      clear b2 hq HA1
      have hq : y2.cell? ⟨w.heap.size, 0, none⟩ = some (.int .i64 u0.id) ∧ y2.cell? ⟨w.heap.size, 1, none⟩ = some (.slice u0.no u0.n.length u0.nc) ∧ y2.cell? ⟨w.heap.size, 2, none⟩ = some (.slice u0.mo u0.cs.length u0.mc) ∧ y2.cell? ⟨w.heap.size, 3, none⟩ = some (.slice u0.eo u0.e.length u0.ec) ∧ y2.cell? ⟨w.heap.size + 1, 0, none⟩ = some (.int .i64 x.t) ∧ y2.cell? ⟨w.heap.size + 1, 1, none⟩ = some (.int .i64 x.m) ∧ y2.cell? ⟨w.heap.size + 1, 2, none⟩ = some (.int .i64 x.r) ∧ y2.cell? ⟨w.heap.size + 1, 3, none⟩ = some (.int .i64 x.s) ∧ y2.cell? ⟨w.heap.size + 1, 4, none⟩ = some (.int .i64 x.k) := HA2.out.all
      unfold mvVal
      go_wp2_with fail
      refine hK.out _ _ ?_ (fun hHeld => ?_)
      · exact hq
      clear hK K
      try simp only [List.getElem_toArray, List.getElem_cons_succ, List.getElem_cons_zero, Act.put, List.setIfInBounds_toArray, List.set_cons_zero, List.set_cons_succ]
      refine wpAnyH_ready (rs := [3, 8]) (by kernel_rfl) (by simp) (AllReadyH.cons rfl (fun K hK => ?_) (AllReadyH.cons rfl (fun K hK => ?_) (AllReadyH.nil)))
      · go_simp
        refine (toState_any _ _ _ _ _ _).mono ?_
        rintro e y3 ⟨rfl, b3⟩
        have HR3 := Lib.hid (HR2.out.below b3)
        have HA3 := Lib.hid (HA2.out.call b3)
        clear b3 hq HA2
        have hq : y3.cell? ⟨w.heap.size, 0, none⟩ = some (.int .i64 u0.id) ∧ y3.cell? ⟨w.heap.size, 1, none⟩ = some (.slice u0.no u0.n.length u0.nc) ∧ y3.cell? ⟨w.heap.size, 2, none⟩ = some (.slice u0.mo u0.cs.length u0.mc) ∧ y3.cell? ⟨w.heap.size, 3, none⟩ = some (.slice u0.eo u0.e.length u0.ec) ∧ y3.cell? ⟨w.heap.size + 1, 0, none⟩ = some (.int .i64 x.t) ∧ y3.cell? ⟨w.heap.size + 1, 1, none⟩ = some (.int .i64 x.m) ∧ y3.cell? ⟨w.heap.size + 1, 2, none⟩ = some (.int .i64 x.r) ∧ y3.cell? ⟨w.heap.size + 1, 3, none⟩ = some (.int .i64 x.s) ∧ y3.cell? ⟨w.heap.size + 1, 4, none⟩ = some (.int .i64 x.k) := HA3.out.all
        go_wp2_with fail
        refine hK.out _ _ ?_ (fun hHeld => ?_)
        · exact hq
        clear hK K
        try simp only [List.getElem_toArray, List.getElem_cons_succ, List.getElem_cons_zero, Act.put, List.setIfInBounds_toArray, List.set_cons_zero, List.set_cons_succ]
        refine wpAnyH_ready (rs := [4, 8]) (by kernel_rfl) (by simp) (AllReadyH.cons rfl (fun K hK => ?_) (AllReadyH.cons rfl (fun K hK => ?_) (AllReadyH.nil)))
        · go_simp
          refine (HCS.out _ _ HV3.out HR3.out).mono ?_
          rintro e y4 ⟨rfl, b4⟩
          have HA4 := Lib.hid (HA3.out.call b4)
          clear b4 hq HA3
          have hq : y4.cell? ⟨w.heap.size, 0, none⟩ = some (.int .i64 u0.id) ∧ y4.cell? ⟨w.heap.size, 1, none⟩ = some (.slice u0.no u0.n.length u0.nc) ∧ y4.cell? ⟨w.heap.size, 2, none⟩ = some (.slice u0.mo u0.cs.length u0.mc) ∧ y4.cell? ⟨w.heap.size, 3, none⟩ = some (.slice u0.eo u0.e.length u0.ec) ∧ y4.cell? ⟨w.heap.size + 1, 0, none⟩ = some (.int .i64 x.t) ∧ y4.cell? ⟨w.heap.size + 1, 1, none⟩ = some (.int .i64 x.m) ∧ y4.cell? ⟨w.heap.size + 1, 2, none⟩ = some (.int .i64 x.r) ∧ y4.cell? ⟨w.heap.size + 1, 3, none⟩ = some (.int .i64 x.s) ∧ y4.cell? ⟨w.heap.size + 1, 4, none⟩ = some (.int .i64 x.k) := HA4.out.all
          go_wp2_with fail
          refine hK.out _ _ ?_ (fun hHeld => ?_)
          · exact hq
          clear hK K
          try simp only [List.getElem_toArray, List.getElem_cons_succ, List.getElem_cons_zero, Act.put, List.setIfInBounds_toArray, List.set_cons_zero, List.set_cons_succ]
          refine wpAnyH_take (i := 5) (v := ?_) rfl (by kernel_rfl) (by kernel_rfl) (by kernel_rfl) (fun _ _ _ h => h) (Or.inl ⟨by rfl, ?_⟩) (by assumption) ?_
          rotate_left
          · (intro w hSw; (try dsimp only at hSw); go_simp; (try with_reducible rfl))
          try simp only [List.getElem_toArray, List.getElem_cons_succ, List.getElem_cons_zero, Act.put, List.setIfInBounds_toArray, List.set_cons_zero, List.set_cons_succ]
          refine wpAnyH_take (i := 6) (v := ?_) rfl (by kernel_rfl) (by kernel_rfl) (by kernel_rfl) (fun _ _ _ h => h) (Or.inl ⟨by rfl, ?_⟩) (by assumption) ?_
          rotate_left
          · (intro w hSw; (try dsimp only at hSw); go_simp; (try with_reducible rfl))
          try simp only [List.getElem_toArray, List.getElem_cons_succ, List.getElem_cons_zero, Act.put, List.setIfInBounds_toArray, List.set_cons_zero, List.set_cons_succ]
          refine wpAnyH_take (i := 7) (v := ?_) rfl (by kernel_rfl) (by kernel_rfl) (by kernel_rfl) (fun _ _ _ h => h) (Or.inl ⟨by rfl, ?_⟩) (by assumption) ?_
          rotate_left
          · (intro w hSw; (try dsimp only at hSw); go_simp; (try with_reducible rfl))
          try simp only [List.getElem_toArray, List.getElem_cons_succ, List.getElem_cons_zero, Act.put, List.setIfInBounds_toArray, List.set_cons_zero, List.set_cons_succ]
          have bZ := (Below.refl y4.heap.size y4).alloc (Nat.le_refl _) (.cells #[.int .i64 0, .int .i64 0, .int .i64 0, .int .i64 0, .bool false] 44)
          have HA8 := Lib.hid (HA4.out.call bZ)
          have hqA : (y4.alloc (.cells #[.int .i64 0, .int .i64 0, .int .i64 0, .int .i64 0, .bool false] 44)).cell? ⟨w.heap.size, 0, none⟩ = some (.int .i64 u0.id) ∧ (y4.alloc (.cells #[.int .i64 0, .int .i64 0, .int .i64 0, .int .i64 0, .bool false] 44)).cell? ⟨w.heap.size, 1, none⟩ = some (.slice u0.no u0.n.length u0.nc) ∧ (y4.alloc (.cells #[.int .i64 0, .int .i64 0, .int .i64 0, .int .i64 0, .bool false] 44)).cell? ⟨w.heap.size, 2, none⟩ = some (.slice u0.mo u0.cs.length u0.mc) ∧ (y4.alloc (.cells #[.int .i64 0, .int .i64 0, .int .i64 0, .int .i64 0, .bool false] 44)).cell? ⟨w.heap.size, 3, none⟩ = some (.slice u0.eo u0.e.length u0.ec) ∧ (y4.alloc (.cells #[.int .i64 0, .int .i64 0, .int .i64 0, .int .i64 0, .bool false] 44)).cell? ⟨w.heap.size + 1, 0, none⟩ = some (.int .i64 x.t) ∧ (y4.alloc (.cells #[.int .i64 0, .int .i64 0, .int .i64 0, .int .i64 0, .bool false] 44)).cell? ⟨w.heap.size + 1, 1, none⟩ = some (.int .i64 x.m) ∧ (y4.alloc (.cells #[.int .i64 0, .int .i64 0, .int .i64 0, .int .i64 0, .bool false] 44)).cell? ⟨w.heap.size + 1, 2, none⟩ = some (.int .i64 x.r) ∧ (y4.alloc (.cells #[.int .i64 0, .int .i64 0, .int .i64 0, .int .i64 0, .bool false] 44)).cell? ⟨w.heap.size + 1, 3, none⟩ = some (.int .i64 x.s) ∧ (y4.alloc (.cells #[.int .i64 0, .int .i64 0, .int .i64 0, .int .i64 0, .bool false] 44)).cell? ⟨w.heap.size + 1, 4, none⟩ = some (.int .i64 x.k) := HA8.out.all
          refine wpAnyH_ready (rs := [8]) (by kernel_rfl) (by simp) (AllReadyH.cons rfl (fun K hK => ?_) AllReadyH.nil)
          go_simp
          refine hK.out _ _ ?_ (fun hHeld => ?_)
          · exact hqA
          clear hK K
          try simp only [List.getElem_toArray, List.getElem_cons_succ, List.getElem_cons_zero, Act.put, List.setIfInBounds_toArray, List.set_cons_zero, List.set_cons_succ]
          have bS := (Below.refl y4.heap.size y4).alloc (Nat.le_refl _) (.cells #[.int .i64 y.node, .int .i64 y.kind, .int .i64 y.size, .int .i64 y.dur, .bool y.chg] 44)
          have HA9 := Lib.hid (HA4.out.call bS)
          have TY := Lib.hid (DescAt.new (T := 44) (n := y.node) (a := y.kind) (z := y.size) (u := y.dur) (c := y.chg) y4)
          have hqB : (y4.alloc (.cells #[.int .i64 y.node, .int .i64 y.kind, .int .i64 y.size, .int .i64 y.dur, .bool y.chg] 44)).cell? ⟨w.heap.size, 0, none⟩ = some (.int .i64 u0.id) ∧ (y4.alloc (.cells #[.int .i64 y.node, .int .i64 y.kind, .int .i64 y.size, .int .i64 y.dur, .bool y.chg] 44)).cell? ⟨w.heap.size, 1, none⟩ = some (.slice u0.no u0.n.length u0.nc) ∧ (y4.alloc (.cells #[.int .i64 y.node, .int .i64 y.kind, .int .i64 y.size, .int .i64 y.dur, .bool y.chg] 44)).cell? ⟨w.heap.size, 2, none⟩ = some (.slice u0.mo u0.cs.length u0.mc) ∧ (y4.alloc (.cells #[.int .i64 y.node, .int .i64 y.kind, .int .i64 y.size, .int .i64 y.dur, .bool y.chg] 44)).cell? ⟨w.heap.size, 3, none⟩ = some (.slice u0.eo u0.e.length u0.ec) ∧ (y4.alloc (.cells #[.int .i64 y.node, .int .i64 y.kind, .int .i64 y.size, .int .i64 y.dur, .bool y.chg] 44)).cell? ⟨w.heap.size + 1, 0, none⟩ = some (.int .i64 x.t) ∧ (y4.alloc (.cells #[.int .i64 y.node, .int .i64 y.kind, .int .i64 y.size, .int .i64 y.dur, .bool y.chg] 44)).cell? ⟨w.heap.size + 1, 1, none⟩ = some (.int .i64 x.m) ∧ (y4.alloc (.cells #[.int .i64 y.node, .int .i64 y.kind, .int .i64 y.size, .int .i64 y.dur, .bool y.chg] 44)).cell? ⟨w.heap.size + 1, 2, none⟩ = some (.int .i64 x.r) ∧ (y4.alloc (.cells #[.int .i64 y.node, .int .i64 y.kind, .int .i64 y.size, .int .i64 y.dur, .bool y.chg] 44)).cell? ⟨w.heap.size + 1, 3, none⟩ = some (.int .i64 x.s) ∧ (y4.alloc (.cells #[.int .i64 y.node, .int .i64 y.kind, .int .i64 y.size, .int .i64 y.dur, .bool y.chg] 44)).cell? ⟨w.heap.size + 1, 4, none⟩ = some (.int .i64 x.k) := HA9.out.all
          refine wpAnyH_ready (rs := [9]) (by kernel_rfl) (by simp) (AllReadyH.cons rfl (fun K hK => ?_) AllReadyH.nil)
          go_simp
          refine hK.out _ _ ?_ (fun hHeld => ?_)
          · exact hqB
          clear hK K
          try simp only [List.getElem_toArray, List.getElem_cons_succ, List.getElem_cons_zero, Act.put, List.setIfInBounds_toArray, List.set_cons_zero, List.set_cons_succ]
          refine wpAnyH_take (i := 10) (v := ?_) rfl (by kernel_rfl) (by kernel_rfl) (by kernel_rfl) (fun _ _ _ h => h) (Or.inl ⟨by rfl, ?_⟩) (by assumption) ?_
          rotate_left
          · (intro w hSw; (try dsimp only at hSw); go_simp; (try with_reducible rfl))
          try simp only [List.getElem_toArray, List.getElem_cons_succ, List.getElem_cons_zero, Act.put, List.setIfInBounds_toArray, List.set_cons_zero, List.set_cons_succ]
          refine wpAnyH_done (by kernel_rfl) ?_ _
          clear hq hqA hqB bZ bS hHeld HA8 HA4
          obtain ⟨Y, hY⟩ : ∃ Y, Y = y4.heap.size := ⟨_, rfl⟩
          rw [← hY] at TY ⊢
          clear hY
          generalize y4.alloc (.cells #[.int .i64 y.node, .int .i64 y.kind, .int .i64 y.size, .int .i64 y.dur, .bool y.chg] 44) = w7 at HA9 TY ⊢
          go_wp2_with fail
          go_meet
          exact ⟨_, rfl, Y, rfl, rfl, HA9, TY⟩
        · have bZ := (Below.refl y3.heap.size y3).alloc (Nat.le_refl _) (.cells #[.int .i64 0, .int .i64 0, .int .i64 0, .int .i64 0, .bool false] 44)
          have HA4 := Lib.hid (HA3.out.call bZ)
          have HR4 := Lib.hid (HR3.out.below bZ)
          have TZ4 := Lib.hid (DescAt.new (T := 44) (n := 0) (a := 0) (z := 0) (u := 0) (c := false) y3)
          have HY := Lib.hid (show w.heap.size + 1 < y3.heap.size from StateAt.lt HA3.out.st)
          have hqA : (y3.alloc (.cells #[.int .i64 0, .int .i64 0, .int .i64 0, .int .i64 0, .bool false] 44)).cell? ⟨w.heap.size, 0, none⟩ = some (.int .i64 u0.id) ∧ (y3.alloc (.cells #[.int .i64 0, .int .i64 0, .int .i64 0, .int .i64 0, .bool false] 44)).cell? ⟨w.heap.size, 1, none⟩ = some (.slice u0.no u0.n.length u0.nc) ∧ (y3.alloc (.cells #[.int .i64 0, .int .i64 0, .int .i64 0, .int .i64 0, .bool false] 44)).cell? ⟨w.heap.size, 2, none⟩ = some (.slice u0.mo u0.cs.length u0.mc) ∧ (y3.alloc (.cells #[.int .i64 0, .int .i64 0, .int .i64 0, .int .i64 0, .bool false] 44)).cell? ⟨w.heap.size, 3, none⟩ = some (.slice u0.eo u0.e.length u0.ec) ∧ (y3.alloc (.cells #[.int .i64 0, .int .i64 0, .int .i64 0, .int .i64 0, .bool false] 44)).cell? ⟨w.heap.size + 1, 0, none⟩ = some (.int .i64 x.t) ∧ (y3.alloc (.cells #[.int .i64 0, .int .i64 0, .int .i64 0, .int .i64 0, .bool false] 44)).cell? ⟨w.heap.size + 1, 1, none⟩ = some (.int .i64 x.m) ∧ (y3.alloc (.cells #[.int .i64 0, .int .i64 0, .int .i64 0, .int .i64 0, .bool false] 44)).cell? ⟨w.heap.size + 1, 2, none⟩ = some (.int .i64 x.r) ∧ (y3.alloc (.cells #[.int .i64 0, .int .i64 0, .int .i64 0, .int .i64 0, .bool false] 44)).cell? ⟨w.heap.size + 1, 3, none⟩ = some (.int .i64 x.s) ∧ (y3.alloc (.cells #[.int .i64 0, .int .i64 0, .int .i64 0, .int .i64 0, .bool false] 44)).cell? ⟨w.heap.size + 1, 4, none⟩ = some (.int .i64 x.k) := HA4.out.all
          go_simp
          refine hK.out _ _ ?_ (fun hHeld => ?_)
          · exact hqA
          clear hK K hq bZ HA3
          obtain ⟨Y, hY⟩ : ∃ Y, Y = y3.heap.size := ⟨_, rfl⟩
          rw [← hY] at TZ4 HY ⊢
          clear hY
          generalize y3.alloc (.cells #[.int .i64 0, .int .i64 0, .int .i64 0, .int .i64 0, .bool false] 44) = y4 at HA4 TZ4 HR4 hqA hHeld ⊢
          have hq := hqA
          clear hqA
          try simp only [List.getElem_toArray, List.getElem_cons_succ, List.getElem_cons_zero, Act.put, List.setIfInBounds_toArray, List.set_cons_zero, List.set_cons_succ]
          refine wpAnyH_ready (rs := [4]) (by kernel_rfl) (by simp) (AllReadyH.cons rfl (fun K hK => ?_) AllReadyH.nil)
          go_simp
          refine (HCS.out _ _ HV3.out HR4.out).mono ?_
          rintro e y5 ⟨rfl, b5⟩
          have HA5 := Lib.hid (HA4.out.call b5)
          have TZ5 := Lib.hid (TZ4.out.below b5 TZ4.out.lt)
          clear b5 hq HA4 TZ4
          have hq : y5.cell? ⟨w.heap.size, 0, none⟩ = some (.int .i64 u0.id) ∧ y5.cell? ⟨w.heap.size, 1, none⟩ = some (.slice u0.no u0.n.length u0.nc) ∧ y5.cell? ⟨w.heap.size, 2, none⟩ = some (.slice u0.mo u0.cs.length u0.mc) ∧ y5.cell? ⟨w.heap.size, 3, none⟩ = some (.slice u0.eo u0.e.length u0.ec) ∧ y5.cell? ⟨w.heap.size + 1, 0, none⟩ = some (.int .i64 x.t) ∧ y5.cell? ⟨w.heap.size + 1, 1, none⟩ = some (.int .i64 x.m) ∧ y5.cell? ⟨w.heap.size + 1, 2, none⟩ = some (.int .i64 x.r) ∧ y5.cell? ⟨w.heap.size + 1, 3, none⟩ = some (.int .i64 x.s) ∧ y5.cell? ⟨w.heap.size + 1, 4, none⟩ = some (.int .i64 x.k) := HA5.out.all
          go_wp2_with fail
          refine hK.out _ _ ?_ (fun hHeld => ?_)
          · exact hq
          clear hK K
          try simp only [List.getElem_toArray, List.getElem_cons_succ, List.getElem_cons_zero, Act.put, List.setIfInBounds_toArray, List.set_cons_zero, List.set_cons_succ]
          refine wpAnyH_take (i := 5) (v := ?_) rfl (by kernel_rfl) (by kernel_rfl) (by kernel_rfl) (fun _ _ _ h => h) (Or.inl ⟨by rfl, ?_⟩) (by assumption) ?_
          rotate_left
          · (intro w hSw; (try dsimp only at hSw); go_simp; (try with_reducible rfl))
          try simp only [List.getElem_toArray, List.getElem_cons_succ, List.getElem_cons_zero, Act.put, List.setIfInBounds_toArray, List.set_cons_zero, List.set_cons_succ]
          refine wpAnyH_take (i := 6) (v := ?_) rfl (by kernel_rfl) (by kernel_rfl) (by kernel_rfl) (fun _ _ _ h => h) (Or.inl ⟨by rfl, ?_⟩) (by assumption) ?_
          rotate_left
          · (intro w hSw; (try dsimp only at hSw); go_simp; (try with_reducible rfl))
          try simp only [List.getElem_toArray, List.getElem_cons_succ, List.getElem_cons_zero, Act.put, List.setIfInBounds_toArray, List.set_cons_zero, List.set_cons_succ]
          refine wpAnyH_take (i := 7) (v := ?_) rfl (by kernel_rfl) (by kernel_rfl) (by kernel_rfl) (fun _ _ _ h => h) (Or.inl ⟨by rfl, ?_⟩) (by assumption) ?_
          rotate_left
          · (intro w hSw; (try dsimp only at hSw); go_simp; (try with_reducible rfl))
          try simp only [List.getElem_toArray, List.getElem_cons_succ, List.getElem_cons_zero, Act.put, List.setIfInBounds_toArray, List.set_cons_zero, List.set_cons_succ]
          have gF := grown_descL y5 Y y.node y.kind y.size y.dur y.chg
          have HA9 := Lib.hid (HA5.out.other HY.out gF)
          have TY := Lib.hid (TZ5.out.five y.node y.kind y.size y.dur y.chg)
          have hqB : (((((y5.setCell ⟨Y, 0, none⟩ (.int .i64 y.node)).setCell ⟨Y, 1, none⟩ (.int .i64 y.kind)).setCell ⟨Y, 2, none⟩ (.int .i64 y.size)).setCell ⟨Y, 3, none⟩ (.int .i64 y.dur)).setCell ⟨Y, 4, none⟩ (.bool y.chg)).cell? ⟨w.heap.size, 0, none⟩ = some (.int .i64 u0.id) ∧ (((((y5.setCell ⟨Y, 0, none⟩ (.int .i64 y.node)).setCell ⟨Y, 1, none⟩ (.int .i64 y.kind)).setCell ⟨Y, 2, none⟩ (.int .i64 y.size)).setCell ⟨Y, 3, none⟩ (.int .i64 y.dur)).setCell ⟨Y, 4, none⟩ (.bool y.chg)).cell? ⟨w.heap.size, 1, none⟩ = some (.slice u0.no u0.n.length u0.nc) ∧ (((((y5.setCell ⟨Y, 0, none⟩ (.int .i64 y.node)).setCell ⟨Y, 1, none⟩ (.int .i64 y.kind)).setCell ⟨Y, 2, none⟩ (.int .i64 y.size)).setCell ⟨Y, 3, none⟩ (.int .i64 y.dur)).setCell ⟨Y, 4, none⟩ (.bool y.chg)).cell? ⟨w.heap.size, 2, none⟩ = some (.slice u0.mo u0.cs.length u0.mc) ∧ (((((y5.setCell ⟨Y, 0, none⟩ (.int .i64 y.node)).setCell ⟨Y, 1, none⟩ (.int .i64 y.kind)).setCell ⟨Y, 2, none⟩ (.int .i64 y.size)).setCell ⟨Y, 3, none⟩ (.int .i64 y.dur)).setCell ⟨Y, 4, none⟩ (.bool y.chg)).cell? ⟨w.heap.size, 3, none⟩ = some (.slice u0.eo u0.e.length u0.ec) ∧ (((((y5.setCell ⟨Y, 0, none⟩ (.int .i64 y.node)).setCell ⟨Y, 1, none⟩ (.int .i64 y.kind)).setCell ⟨Y, 2, none⟩ (.int .i64 y.size)).setCell ⟨Y, 3, none⟩ (.int .i64 y.dur)).setCell ⟨Y, 4, none⟩ (.bool y.chg)).cell? ⟨w.heap.size + 1, 0, none⟩ = some (.int .i64 x.t) ∧ (((((y5.setCell ⟨Y, 0, none⟩ (.int .i64 y.node)).setCell ⟨Y, 1, none⟩ (.int .i64 y.kind)).setCell ⟨Y, 2, none⟩ (.int .i64 y.size)).setCell ⟨Y, 3, none⟩ (.int .i64 y.dur)).setCell ⟨Y, 4, none⟩ (.bool y.chg)).cell? ⟨w.heap.size + 1, 1, none⟩ = some (.int .i64 x.m) ∧ (((((y5.setCell ⟨Y, 0, none⟩ (.int .i64 y.node)).setCell ⟨Y, 1, none⟩ (.int .i64 y.kind)).setCell ⟨Y, 2, none⟩ (.int .i64 y.size)).setCell ⟨Y, 3, none⟩ (.int .i64 y.dur)).setCell ⟨Y, 4, none⟩ (.bool y.chg)).cell? ⟨w.heap.size + 1, 2, none⟩ = some (.int .i64 x.r) ∧ (((((y5.setCell ⟨Y, 0, none⟩ (.int .i64 y.node)).setCell ⟨Y, 1, none⟩ (.int .i64 y.kind)).setCell ⟨Y, 2, none⟩ (.int .i64 y.size)).setCell ⟨Y, 3, none⟩ (.int .i64 y.dur)).setCell ⟨Y, 4, none⟩ (.bool y.chg)).cell? ⟨w.heap.size + 1, 3, none⟩ = some (.int .i64 x.s) ∧ (((((y5.setCell ⟨Y, 0, none⟩ (.int .i64 y.node)).setCell ⟨Y, 1, none⟩ (.int .i64 y.kind)).setCell ⟨Y, 2, none⟩ (.int .i64 y.size)).setCell ⟨Y, 3, none⟩ (.int .i64 y.dur)).setCell ⟨Y, 4, none⟩ (.bool y.chg)).cell? ⟨w.heap.size + 1, 4, none⟩ = some (.int .i64 x.k) := HA9.out.all
          have z0 := TZ5.out.c0; have k0 := TZ5.out.f 0
          have z1 := TZ5.out.c1; have k1 := TZ5.out.f 1
          have z2 := TZ5.out.c2; have k2 := TZ5.out.f 2
          have z3 := TZ5.out.c3; have k3 := TZ5.out.f 3
          have z4 := TZ5.out.c4; have k4 := TZ5.out.f 4
          refine wpAnyH_ready (rs := [9]) (by kernel_rfl) (by simp) (AllReadyH.cons rfl (fun K hK => ?_) AllReadyH.nil)
          go_simp
          refine hK.out _ _ ?_ (fun hHeld => ?_)
          · exact hqB
          clear hK K z0 z1 z2 z3 z4 k0 k1 k2 k3 k4 hq gF
          try simp only [List.getElem_toArray, List.getElem_cons_succ, List.getElem_cons_zero, Act.put, List.setIfInBounds_toArray, List.set_cons_zero, List.set_cons_succ]
          refine wpAnyH_take (i := 10) (v := ?_) rfl (by kernel_rfl) (by kernel_rfl) (by kernel_rfl) (fun _ _ _ h => h) (Or.inl ⟨by rfl, ?_⟩) (by assumption) ?_
          rotate_left
          · (intro w hSw; (try dsimp only at hSw); go_simp; (try with_reducible rfl))
          try simp only [List.getElem_toArray, List.getElem_cons_succ, List.getElem_cons_zero, Act.put, List.setIfInBounds_toArray, List.set_cons_zero, List.set_cons_succ]
          refine wpAnyH_done (by kernel_rfl) ?_ _
          clear hHeld hqB
          rw [show (((((y5.setCell ⟨Y, 0, none⟩ (.int .i64 y.node)).setCell ⟨Y, 1, none⟩ (.int .i64 y.kind)).setCell ⟨Y, 2, none⟩ (.int .i64 y.size)).setCell ⟨Y, 3, none⟩ (.int .i64 y.dur)).setCell ⟨Y, 4, none⟩ (.bool y.chg)) = (setDesc y5 Y y.node y.kind y.size y.dur y.chg) from rfl]
          generalize (setDesc y5 Y y.node y.kind y.size y.dur y.chg) = w7 at HA9 TY ⊢
          go_wp2_with fail
          go_meet
          exact ⟨_, rfl, Y, rfl, rfl, HA9, TY⟩
      · have bZ := (Below.refl y2.heap.size y2).alloc (Nat.le_refl _) (.cells #[.int .i64 0, .int .i64 0, .int .i64 0, .int .i64 0, .bool false] 44)
        have HA3 := Lib.hid (HA2.out.call bZ)
        have HR3 := Lib.hid (HR2.out.below bZ)
        have TZ3 := Lib.hid (DescAt.new (T := 44) (n := 0) (a := 0) (z := 0) (u := 0) (c := false) y2)
        have HY := Lib.hid (show w.heap.size + 1 < y2.heap.size from StateAt.lt HA2.out.st)
        have hqA : (y2.alloc (.cells #[.int .i64 0, .int .i64 0, .int .i64 0, .int .i64 0, .bool false] 44)).cell? ⟨w.heap.size, 0, none⟩ = some (.int .i64 u0.id) ∧ (y2.alloc (.cells #[.int .i64 0, .int .i64 0, .int .i64 0, .int .i64 0, .bool false] 44)).cell? ⟨w.heap.size, 1, none⟩ = some (.slice u0.no u0.n.length u0.nc) ∧ (y2.alloc (.cells #[.int .i64 0, .int .i64 0, .int .i64 0, .int .i64 0, .bool false] 44)).cell? ⟨w.heap.size, 2, none⟩ = some (.slice u0.mo u0.cs.length u0.mc) ∧ (y2.alloc (.cells #[.int .i64 0, .int .i64 0, .int .i64 0, .int .i64 0, .bool false] 44)).cell? ⟨w.heap.size, 3, none⟩ = some (.slice u0.eo u0.e.length u0.ec) ∧ (y2.alloc (.cells #[.int .i64 0, .int .i64 0, .int .i64 0, .int .i64 0, .bool false] 44)).cell? ⟨w.heap.size + 1, 0, none⟩ = some (.int .i64 x.t) ∧ (y2.alloc (.cells #[.int .i64 0, .int .i64 0, .int .i64 0, .int .i64 0, .bool false] 44)).cell? ⟨w.heap.size + 1, 1, none⟩ = some (.int .i64 x.m) ∧ (y2.alloc (.cells #[.int .i64 0, .int .i64 0, .int .i64 0, .int .i64 0, .bool false] 44)).cell? ⟨w.heap.size + 1, 2, none⟩ = some (.int .i64 x.r) ∧ (y2.alloc (.cells #[.int .i64 0, .int .i64 0, .int .i64 0, .int .i64 0, .bool false] 44)).cell? ⟨w.heap.size + 1, 3, none⟩ = some (.int .i64 x.s) ∧ (y2.alloc (.cells #[.int .i64 0, .int .i64 0, .int .i64 0, .int .i64 0, .bool false] 44)).cell? ⟨w.heap.size + 1, 4, none⟩ = some (.int .i64 x.k) := HA3.out.all
        go_simp
        refine hK.out _ _ ?_ (fun hHeld => ?_)
        · exact hqA
        clear hK K hq bZ HA2
        obtain ⟨Y, hY⟩ : ∃ Y, Y = y2.heap.size := ⟨_, rfl⟩
        rw [← hY] at TZ3 HY ⊢
        clear hY
        generalize y2.alloc (.cells #[.int .i64 0, .int .i64 0, .int .i64 0, .int .i64 0, .bool false] 44) = y3 at HA3 TZ3 HR3 hqA hHeld ⊢
        have hq := hqA
        clear hqA
        try simp only [List.getElem_toArray, List.getElem_cons_succ, List.getElem_cons_zero, Act.put, List.setIfInBounds_toArray, List.set_cons_zero, List.set_cons_succ]
        refine wpAnyH_ready (rs := [3]) (by kernel_rfl) (by simp) (AllReadyH.cons rfl (fun K hK => ?_) AllReadyH.nil)
        go_simp
        refine (toState_any _ _ _ _ _ _).mono ?_
        rintro e y4 ⟨rfl, b4⟩
        have HR4 := Lib.hid (HR3.out.below b4)
        have HA4 := Lib.hid (HA3.out.call b4)
        have TZ4 := Lib.hid (TZ3.out.below b4 TZ3.out.lt)
        clear b4 hq HA3 TZ3
        have hq : y4.cell? ⟨w.heap.size, 0, none⟩ = some (.int .i64 u0.id) ∧ y4.cell? ⟨w.heap.size, 1, none⟩ = some (.slice u0.no u0.n.length u0.nc) ∧ y4.cell? ⟨w.heap.size, 2, none⟩ = some (.slice u0.mo u0.cs.length u0.mc) ∧ y4.cell? ⟨w.heap.size, 3, none⟩ = some (.slice u0.eo u0.e.length u0.ec) ∧ y4.cell? ⟨w.heap.size + 1, 0, none⟩ = some (.int .i64 x.t) ∧ y4.cell? ⟨w.heap.size + 1, 1, none⟩ = some (.int .i64 x.m) ∧ y4.cell? ⟨w.heap.size + 1, 2, none⟩ = some (.int .i64 x.r) ∧ y4.cell? ⟨w.heap.size + 1, 3, none⟩ = some (.int .i64 x.s) ∧ y4.cell? ⟨w.heap.size + 1, 4, none⟩ = some (.int .i64 x.k) := HA4.out.all
        go_wp2_with fail
        refine hK.out _ _ ?_ (fun hHeld => ?_)
        · exact hq
        clear hK K
        try simp only [List.getElem_toArray, List.getElem_cons_succ, List.getElem_cons_zero, Act.put, List.setIfInBounds_toArray, List.set_cons_zero, List.set_cons_succ]
        refine wpAnyH_ready (rs := [4]) (by kernel_rfl) (by simp) (AllReadyH.cons rfl (fun K hK => ?_) AllReadyH.nil)
        go_simp
        refine (HCS.out _ _ HV3.out HR4.out).mono ?_
        rintro e y5 ⟨rfl, b5⟩
        have HA5 := Lib.hid (HA4.out.call b5)
        have TZ5 := Lib.hid (TZ4.out.below b5 TZ4.out.lt)
        clear b5 hq HA4 TZ4
        have hq : y5.cell? ⟨w.heap.size, 0, none⟩ = some (.int .i64 u0.id) ∧ y5.cell? ⟨w.heap.size, 1, none⟩ = some (.slice u0.no u0.n.length u0.nc) ∧ y5.cell? ⟨w.heap.size, 2, none⟩ = some (.slice u0.mo u0.cs.length u0.mc) ∧ y5.cell? ⟨w.heap.size, 3, none⟩ = some (.slice u0.eo u0.e.length u0.ec) ∧ y5.cell? ⟨w.heap.size + 1, 0, none⟩ = some (.int .i64 x.t) ∧ y5.cell? ⟨w.heap.size + 1, 1, none⟩ = some (.int .i64 x.m) ∧ y5.cell? ⟨w.heap.size + 1, 2, none⟩ = some (.int .i64 x.r) ∧ y5.cell? ⟨w.heap.size + 1, 3, none⟩ = some (.int .i64 x.s) ∧ y5.cell? ⟨w.heap.size + 1, 4, none⟩ = some (.int .i64 x.k) := HA5.out.all
        go_wp2_with fail
        refine hK.out _ _ ?_ (fun hHeld => ?_)
        · exact hq
        clear hK K
        try simp only [List.getElem_toArray, List.getElem_cons_succ, List.getElem_cons_zero, Act.put, List.setIfInBounds_toArray, List.set_cons_zero, List.set_cons_succ]
        refine wpAnyH_take (i := 5) (v := ?_) rfl (by kernel_rfl) (by kernel_rfl) (by kernel_rfl) (fun _ _ _ h => h) (Or.inl ⟨by rfl, ?_⟩) (by assumption) ?_
        rotate_left
        · (intro w hSw; (try dsimp only at hSw); go_simp; (try with_reducible rfl))
        try simp only [List.getElem_toArray, List.getElem_cons_succ, List.getElem_cons_zero, Act.put, List.setIfInBounds_toArray, List.set_cons_zero, List.set_cons_succ]
        refine wpAnyH_take (i := 6) (v := ?_) rfl (by kernel_rfl) (by kernel_rfl) (by kernel_rfl) (fun _ _ _ h => h) (Or.inl ⟨by rfl, ?_⟩) (by assumption) ?_
        rotate_left
        · (intro w hSw; (try dsimp only at hSw); go_simp; (try with_reducible rfl))
        try simp only [List.getElem_toArray, List.getElem_cons_succ, List.getElem_cons_zero, Act.put, List.setIfInBounds_toArray, List.set_cons_zero, List.set_cons_succ]
        refine wpAnyH_take (i := 7) (v := ?_) rfl (by kernel_rfl) (by kernel_rfl) (by kernel_rfl) (fun _ _ _ h => h) (Or.inl ⟨by rfl, ?_⟩) (by assumption) ?_
        rotate_left
        · (intro w hSw; (try dsimp only at hSw); go_simp; (try with_reducible rfl))
        try simp only [List.getElem_toArray, List.getElem_cons_succ, List.getElem_cons_zero, Act.put, List.setIfInBounds_toArray, List.set_cons_zero, List.set_cons_succ]
        have gF := grown_descL y5 Y y.node y.kind y.size y.dur y.chg
        have HA9 := Lib.hid (HA5.out.other HY.out gF)
        have TY := Lib.hid (TZ5.out.five y.node y.kind y.size y.dur y.chg)
        have hqB : (((((y5.setCell ⟨Y, 0, none⟩ (.int .i64 y.node)).setCell ⟨Y, 1, none⟩ (.int .i64 y.kind)).setCell ⟨Y, 2, none⟩ (.int .i64 y.size)).setCell ⟨Y, 3, none⟩ (.int .i64 y.dur)).setCell ⟨Y, 4, none⟩ (.bool y.chg)).cell? ⟨w.heap.size, 0, none⟩ = some (.int .i64 u0.id) ∧ (((((y5.setCell ⟨Y, 0, none⟩ (.int .i64 y.node)).setCell ⟨Y, 1, none⟩ (.int .i64 y.kind)).setCell ⟨Y, 2, none⟩ (.int .i64 y.size)).setCell ⟨Y, 3, none⟩ (.int .i64 y.dur)).setCell ⟨Y, 4, none⟩ (.bool y.chg)).cell? ⟨w.heap.size, 1, none⟩ = some (.slice u0.no u0.n.length u0.nc) ∧ (((((y5.setCell ⟨Y, 0, none⟩ (.int .i64 y.node)).setCell ⟨Y, 1, none⟩ (.int .i64 y.kind)).setCell ⟨Y, 2, none⟩ (.int .i64 y.size)).setCell ⟨Y, 3, none⟩ (.int .i64 y.dur)).setCell ⟨Y, 4, none⟩ (.bool y.chg)).cell? ⟨w.heap.size, 2, none⟩ = some (.slice u0.mo u0.cs.length u0.mc) ∧ (((((y5.setCell ⟨Y, 0, none⟩ (.int .i64 y.node)).setCell ⟨Y, 1, none⟩ (.int .i64 y.kind)).setCell ⟨Y, 2, none⟩ (.int .i64 y.size)).setCell ⟨Y, 3, none⟩ (.int .i64 y.dur)).setCell ⟨Y, 4, none⟩ (.bool y.chg)).cell? ⟨w.heap.size, 3, none⟩ = some (.slice u0.eo u0.e.length u0.ec) ∧ (((((y5.setCell ⟨Y, 0, none⟩ (.int .i64 y.node)).setCell ⟨Y, 1, none⟩ (.int .i64 y.kind)).setCell ⟨Y, 2, none⟩ (.int .i64 y.size)).setCell ⟨Y, 3, none⟩ (.int .i64 y.dur)).setCell ⟨Y, 4, none⟩ (.bool y.chg)).cell? ⟨w.heap.size + 1, 0, none⟩ = some (.int .i64 x.t) ∧ (((((y5.setCell ⟨Y, 0, none⟩ (.int .i64 y.node)).setCell ⟨Y, 1, none⟩ (.int .i64 y.kind)).setCell ⟨Y, 2, none⟩ (.int .i64 y.size)).setCell ⟨Y, 3, none⟩ (.int .i64 y.dur)).setCell ⟨Y, 4, none⟩ (.bool y.chg)).cell? ⟨w.heap.size + 1, 1, none⟩ = some (.int .i64 x.m) ∧ (((((y5.setCell ⟨Y, 0, none⟩ (.int .i64 y.node)).setCell ⟨Y, 1, none⟩ (.int .i64 y.kind)).setCell ⟨Y, 2, none⟩ (.int .i64 y.size)).setCell ⟨Y, 3, none⟩ (.int .i64 y.dur)).setCell ⟨Y, 4, none⟩ (.bool y.chg)).cell? ⟨w.heap.size + 1, 2, none⟩ = some (.int .i64 x.r) ∧ (((((y5.setCell ⟨Y, 0, none⟩ (.int .i64 y.node)).setCell ⟨Y, 1, none⟩ (.int .i64 y.kind)).setCell ⟨Y, 2, none⟩ (.int .i64 y.size)).setCell ⟨Y, 3, none⟩ (.int .i64 y.dur)).setCell ⟨Y, 4, none⟩ (.bool y.chg)).cell? ⟨w.heap.size + 1, 3, none⟩ = some (.int .i64 x.s) ∧ (((((y5.setCell ⟨Y, 0, none⟩ (.int .i64 y.node)).setCell ⟨Y, 1, none⟩ (.int .i64 y.kind)).setCell ⟨Y, 2, none⟩ (.int .i64 y.size)).setCell ⟨Y, 3, none⟩ (.int .i64 y.dur)).setCell ⟨Y, 4, none⟩ (.bool y.chg)).cell? ⟨w.heap.size + 1, 4, none⟩ = some (.int .i64 x.k) := HA9.out.all
        have z0 := TZ5.out.c0; have k0 := TZ5.out.f 0
        have z1 := TZ5.out.c1; have k1 := TZ5.out.f 1
        have z2 := TZ5.out.c2; have k2 := TZ5.out.f 2
        have z3 := TZ5.out.c3; have k3 := TZ5.out.f 3
        have z4 := TZ5.out.c4; have k4 := TZ5.out.f 4
        refine wpAnyH_ready (rs := [9]) (by kernel_rfl) (by simp) (AllReadyH.cons rfl (fun K hK => ?_) AllReadyH.nil)
        go_simp
        refine hK.out _ _ ?_ (fun hHeld => ?_)
        · exact hqB
        clear hK K z0 z1 z2 z3 z4 k0 k1 k2 k3 k4 hq gF
        try simp only [List.getElem_toArray, List.getElem_cons_succ, List.getElem_cons_zero, Act.put, List.setIfInBounds_toArray, List.set_cons_zero, List.set_cons_succ]
        refine wpAnyH_take (i := 10) (v := ?_) rfl (by kernel_rfl) (by kernel_rfl) (by kernel_rfl) (fun _ _ _ h => h) (Or.inl ⟨by rfl, ?_⟩) (by assumption) ?_
        rotate_left
        · (intro w hSw; (try dsimp only at hSw); go_simp; (try with_reducible rfl))
        try simp only [List.getElem_toArray, List.getElem_cons_succ, List.getElem_cons_zero, Act.put, List.setIfInBounds_toArray, List.set_cons_zero, List.set_cons_succ]
        refine wpAnyH_done (by kernel_rfl) ?_ _
        clear hHeld hqB
        rw [show (((((y5.setCell ⟨Y, 0, none⟩ (.int .i64 y.node)).setCell ⟨Y, 1, none⟩ (.int .i64 y.kind)).setCell ⟨Y, 2, none⟩ (.int .i64 y.size)).setCell ⟨Y, 3, none⟩ (.int .i64 y.dur)).setCell ⟨Y, 4, none⟩ (.bool y.chg)) = (setDesc y5 Y y.node y.kind y.size y.dur y.chg) from rfl]
        generalize (setDesc y5 Y y.node y.kind y.size y.dur y.chg) = w7 at HA9 TY ⊢
        go_wp2_with fail
        go_meet
        exact ⟨_, rfl, Y, rfl, rfl, HA9, TY⟩
    · have bZ := (Below.refl y1.heap.size y1).alloc (Nat.le_refl _) (.cells #[.int .i64 0, .int .i64 0, .int .i64 0, .int .i64 0, .bool false] 44)
      have HA2 := Lib.hid (HA1.out.call bZ)
      have TZ2 := Lib.hid (DescAt.new (T := 44) (n := 0) (a := 0) (z := 0) (u := 0) (c := false) y1)
      have HY := Lib.hid (show w.heap.size + 1 < y1.heap.size from StateAt.lt HA1.out.st)
      have hqA : (y1.alloc (.cells #[.int .i64 0, .int .i64 0, .int .i64 0, .int .i64 0, .bool false] 44)).cell? ⟨w.heap.size, 0, none⟩ = some (.int .i64 u0.id) ∧ (y1.alloc (.cells #[.int .i64 0, .int .i64 0, .int .i64 0, .int .i64 0, .bool false] 44)).cell? ⟨w.heap.size, 1, none⟩ = some (.slice u0.no u0.n.length u0.nc) ∧ (y1.alloc (.cells #[.int .i64 0, .int .i64 0, .int .i64 0, .int .i64 0, .bool false] 44)).cell? ⟨w.heap.size, 2, none⟩ = some (.slice u0.mo u0.cs.length u0.mc) ∧ (y1.alloc (.cells #[.int .i64 0, .int .i64 0, .int .i64 0, .int .i64 0, .bool false] 44)).cell? ⟨w.heap.size, 3, none⟩ = some (.slice u0.eo u0.e.length u0.ec) ∧ (y1.alloc (.cells #[.int .i64 0, .int .i64 0, .int .i64 0, .int .i64 0, .bool false] 44)).cell? ⟨w.heap.size + 1, 0, none⟩ = some (.int .i64 x.t) ∧ (y1.alloc (.cells #[.int .i64 0, .int .i64 0, .int .i64 0, .int .i64 0, .bool false] 44)).cell? ⟨w.heap.size + 1, 1, none⟩ = some (.int .i64 x.m) ∧ (y1.alloc (.cells #[.int .i64 0, .int .i64 0, .int .i64 0, .int .i64 0, .bool false] 44)).cell? ⟨w.heap.size + 1, 2, none⟩ = some (.int .i64 x.r) ∧ (y1.alloc (.cells #[.int .i64 0, .int .i64 0, .int .i64 0, .int .i64 0, .bool false] 44)).cell? ⟨w.heap.size + 1, 3, none⟩ = some (.int .i64 x.s) ∧ (y1.alloc (.cells #[.int .i64 0, .int .i64 0, .int .i64 0, .int .i64 0, .bool false] 44)).cell? ⟨w.heap.size + 1, 4, none⟩ = some (.int .i64 x.k) := HA2.out.all
      go_simp
      refine hK.out _ _ ?_ (fun hHeld => ?_)
      · exact hqA
      clear hK K hq bZ HA1
      obtain ⟨Y, hY⟩ : ∃ Y, Y = y1.heap.size := ⟨_, rfl⟩
      rw [← hY] at TZ2 HY ⊢
      clear hY
      generalize y1.alloc (.cells #[.int .i64 0, .int .i64 0, .int .i64 0, .int .i64 0, .bool false] 44) = y2 at HA2 TZ2 hqA hHeld ⊢
      have hq := hqA
      clear hqA
      try simp only [List.getElem_toArray, List.getElem_cons_succ, List.getElem_cons_zero, Act.put, List.setIfInBounds_toArray, List.set_cons_zero, List.set_cons_succ]
      refine wpAnyH_ready (rs := [1]) (by kernel_rfl) (by simp) (AllReadyH.cons rfl (fun K hK => ?_) AllReadyH.nil)
      go_simp
      refine (HTO.out _ HA2.out.arg.below).mono ?_
      rintro e y3 ⟨v3, hv3, rfl, o3, b3⟩
      have HV3 := Lib.hid hv3
      have HR3 := Lib.hid (o3.rd (by rw [hv3]; exact HS.out))
      clear o3 hv3
      have HA3 := Lib.hid (HA2.out.call b3)
      have TZ3 := Lib.hid (TZ2.out.below b3 TZ2.out.lt)
      clear b3 hq HA2 TZ2
      have hq : y3.cell? ⟨w.heap.size, 0, none⟩ = some (.int .i64 u0.id) ∧ y3.cell? ⟨w.heap.size, 1, none⟩ = some (.slice u0.no u0.n.length u0.nc) ∧ y3.cell? ⟨w.heap.size, 2, none⟩ = some (.slice u0.mo u0.cs.length u0.mc) ∧ y3.cell? ⟨w.heap.size, 3, none⟩ = some (.slice u0.eo u0.e.length u0.ec) ∧ y3.cell? ⟨w.heap.size + 1, 0, none⟩ = some (.int .i64 x.t) ∧ y3.cell? ⟨w.heap.size + 1, 1, none⟩ = some (.int .i64 x.m) ∧ y3.cell? ⟨w.heap.size + 1, 2, none⟩ = some (.int .i64 x.r) ∧ y3.cell? ⟨w.heap.size + 1, 3, none⟩ = some (.int .i64 x.s) ∧ y3.cell? ⟨w.heap.size + 1, 4, none⟩ = some (.int .i64 x.k) := HA3.out.all
      unfold mvVal
      go_wp2_with fail
      refine hK.out _ _ ?_ (fun hHeld => ?_)
      · exact hq
      clear hK K
      try simp only [List.getElem_toArray, List.getElem_cons_succ, List.getElem_cons_zero, Act.put, List.setIfInBounds_toArray, List.set_cons_zero, List.set_cons_succ]
      refine wpAnyH_ready (rs := [3]) (by kernel_rfl) (by simp) (AllReadyH.cons rfl (fun K hK => ?_) AllReadyH.nil)
      go_simp
      refine (toState_any _ _ _ _ _ _).mono ?_
      rintro e y4 ⟨rfl, b4⟩
      have HR4 := Lib.hid (HR3.out.below b4)
      have HA4 := Lib.hid (HA3.out.call b4)
      have TZ4 := Lib.hid (TZ3.out.below b4 TZ3.out.lt)
      clear b4 hq HA3 TZ3
      have hq : y4.cell? ⟨w.heap.size, 0, none⟩ = some (.int .i64 u0.id) ∧ y4.cell? ⟨w.heap.size, 1, none⟩ = some (.slice u0.no u0.n.length u0.nc) ∧ y4.cell? ⟨w.heap.size, 2, none⟩ = some (.slice u0.mo u0.cs.length u0.mc) ∧ y4.cell? ⟨w.heap.size, 3, none⟩ = some (.slice u0.eo u0.e.length u0.ec) ∧ y4.cell? ⟨w.heap.size + 1, 0, none⟩ = some (.int .i64 x.t) ∧ y4.cell? ⟨w.heap.size + 1, 1, none⟩ = some (.int .i64 x.m) ∧ y4.cell? ⟨w.heap.size + 1, 2, none⟩ = some (.int .i64 x.r) ∧ y4.cell? ⟨w.heap.size + 1, 3, none⟩ = some (.int .i64 x.s) ∧ y4.cell? ⟨w.heap.size + 1, 4, none⟩ = some (.int .i64 x.k) := HA4.out.all
      go_wp2_with fail
      refine hK.out _ _ ?_ (fun hHeld => ?_)
      · exact hq
      clear hK K
      try simp only [List.getElem_toArray, List.getElem_cons_succ, List.getElem_cons_zero, Act.put, List.setIfInBounds_toArray, List.set_cons_zero, List.set_cons_succ]
      refine wpAnyH_ready (rs := [4]) (by kernel_rfl) (by simp) (AllReadyH.cons rfl (fun K hK => ?_) AllReadyH.nil)
      go_simp
      refine (HCS.out _ _ HV3.out HR4.out).mono ?_
      rintro e y5 ⟨rfl, b5⟩
      have HA5 := Lib.hid (HA4.out.call b5)
      have TZ5 := Lib.hid (TZ4.out.below b5 TZ4.out.lt)
      clear b5 hq HA4 TZ4
      have hq : y5.cell? ⟨w.heap.size, 0, none⟩ = some (.int .i64 u0.id) ∧ y5.cell? ⟨w.heap.size, 1, none⟩ = some (.slice u0.no u0.n.length u0.nc) ∧ y5.cell? ⟨w.heap.size, 2, none⟩ = some (.slice u0.mo u0.cs.length u0.mc) ∧ y5.cell? ⟨w.heap.size, 3, none⟩ = some (.slice u0.eo u0.e.length u0.ec) ∧ y5.cell? ⟨w.heap.size + 1, 0, none⟩ = some (.int .i64 x.t) ∧ y5.cell? ⟨w.heap.size + 1, 1, none⟩ = some (.int .i64 x.m) ∧ y5.cell? ⟨w.heap.size + 1, 2, none⟩ = some (.int .i64 x.r) ∧ y5.cell? ⟨w.heap.size + 1, 3, none⟩ = some (.int .i64 x.s) ∧ y5.cell? ⟨w.heap.size + 1, 4, none⟩ = some (.int .i64 x.k) := HA5.out.all
      go_wp2_with fail
      refine hK.out _ _ ?_ (fun hHeld => ?_)
      · exact hq
      clear hK K
      try simp only [List.getElem_toArray, List.getElem_cons_succ, List.getElem_cons_zero, Act.put, List.setIfInBounds_toArray, List.set_cons_zero, List.set_cons_succ]
      refine wpAnyH_take (i := 5) (v := ?_) rfl (by kernel_rfl) (by kernel_rfl) (by kernel_rfl) (fun _ _ _ h => h) (Or.inl ⟨by rfl, ?_⟩) (by assumption) ?_
      rotate_left
      · (intro w hSw; (try dsimp only at hSw); go_simp; (try with_reducible rfl))
      try simp only [List.getElem_toArray, List.getElem_cons_succ, List.getElem_cons_zero, Act.put, List.setIfInBounds_toArray, List.set_cons_zero, List.set_cons_succ]
      refine wpAnyH_take (i := 6) (v := ?_) rfl (by kernel_rfl) (by kernel_rfl) (by kernel_rfl) (fun _ _ _ h => h) (Or.inl ⟨by rfl, ?_⟩) (by assumption) ?_
      rotate_left
      · (intro w hSw; (try dsimp only at hSw); go_simp; (try with_reducible rfl))
      try simp only [List.getElem_toArray, List.getElem_cons_succ, List.getElem_cons_zero, Act.put, List.setIfInBounds_toArray, List.set_cons_zero, List.set_cons_succ]
      refine wpAnyH_take (i := 7) (v := ?_) rfl (by kernel_rfl) (by kernel_rfl) (by kernel_rfl) (fun _ _ _ h => h) (Or.inl ⟨by rfl, ?_⟩) (by assumption) ?_
      rotate_left
      · (intro w hSw; (try dsimp only at hSw); go_simp; (try with_reducible rfl))
      try simp only [List.getElem_toArray, List.getElem_cons_succ, List.getElem_cons_zero, Act.put, List.setIfInBounds_toArray, List.set_cons_zero, List.set_cons_succ]
      have gF := grown_descL y5 Y y.node y.kind y.size y.dur y.chg
      have HA9 := Lib.hid (HA5.out.other HY.out gF)
      have TY := Lib.hid (TZ5.out.five y.node y.kind y.size y.dur y.chg)
      have hqB : (((((y5.setCell ⟨Y, 0, none⟩ (.int .i64 y.node)).setCell ⟨Y, 1, none⟩ (.int .i64 y.kind)).setCell ⟨Y, 2, none⟩ (.int .i64 y.size)).setCell ⟨Y, 3, none⟩ (.int .i64 y.dur)).setCell ⟨Y, 4, none⟩ (.bool y.chg)).cell? ⟨w.heap.size, 0, none⟩ = some (.int .i64 u0.id) ∧ (((((y5.setCell ⟨Y, 0, none⟩ (.int .i64 y.node)).setCell ⟨Y, 1, none⟩ (.int .i64 y.kind)).setCell ⟨Y, 2, none⟩ (.int .i64 y.size)).setCell ⟨Y, 3, none⟩ (.int .i64 y.dur)).setCell ⟨Y, 4, none⟩ (.bool y.chg)).cell? ⟨w.heap.size, 1, none⟩ = some (.slice u0.no u0.n.length u0.nc) ∧ (((((y5.setCell ⟨Y, 0, none⟩ (.int .i64 y.node)).setCell ⟨Y, 1, none⟩ (.int .i64 y.kind)).setCell ⟨Y, 2, none⟩ (.int .i64 y.size)).setCell ⟨Y, 3, none⟩ (.int .i64 y.dur)).setCell ⟨Y, 4, none⟩ (.bool y.chg)).cell? ⟨w.heap.size, 2, none⟩ = some (.slice u0.mo u0.cs.length u0.mc) ∧ (((((y5.setCell ⟨Y, 0, none⟩ (.int .i64 y.node)).setCell ⟨Y, 1, none⟩ (.int .i64 y.kind)).setCell ⟨Y, 2, none⟩ (.int .i64 y.size)).setCell ⟨Y, 3, none⟩ (.int .i64 y.dur)).setCell ⟨Y, 4, none⟩ (.bool y.chg)).cell? ⟨w.heap.size, 3, none⟩ = some (.slice u0.eo u0.e.length u0.ec) ∧ (((((y5.setCell ⟨Y, 0, none⟩ (.int .i64 y.node)).setCell ⟨Y, 1, none⟩ (.int .i64 y.kind)).setCell ⟨Y, 2, none⟩ (.int .i64 y.size)).setCell ⟨Y, 3, none⟩ (.int .i64 y.dur)).setCell ⟨Y, 4, none⟩ (.bool y.chg)).cell? ⟨w.heap.size + 1, 0, none⟩ = some (.int .i64 x.t) ∧ (((((y5.setCell ⟨Y, 0, none⟩ (.int .i64 y.node)).setCell ⟨Y, 1, none⟩ (.int .i64 y.kind)).setCell ⟨Y, 2, none⟩ (.int .i64 y.size)).setCell ⟨Y, 3, none⟩ (.int .i64 y.dur)).setCell ⟨Y, 4, none⟩ (.bool y.chg)).cell? ⟨w.heap.size + 1, 1, none⟩ = some (.int .i64 x.m) ∧ (((((y5.setCell ⟨Y, 0, none⟩ (.int .i64 y.node)).setCell ⟨Y, 1, none⟩ (.int .i64 y.kind)).setCell ⟨Y, 2, none⟩ (.int .i64 y.size)).setCell ⟨Y, 3, none⟩ (.int .i64 y.dur)).setCell ⟨Y, 4, none⟩ (.bool y.chg)).cell? ⟨w.heap.size + 1, 2, none⟩ = some (.int .i64 x.r) ∧ (((((y5.setCell ⟨Y, 0, none⟩ (.int .i64 y.node)).setCell ⟨Y, 1, none⟩ (.int .i64 y.kind)).setCell ⟨Y, 2, none⟩ (.int .i64 y.size)).setCell ⟨Y, 3, none⟩ (.int .i64 y.dur)).setCell ⟨Y, 4, none⟩ (.bool y.chg)).cell? ⟨w.heap.size + 1, 3, none⟩ = some (.int .i64 x.s) ∧ (((((y5.setCell ⟨Y, 0, none⟩ (.int .i64 y.node)).setCell ⟨Y, 1, none⟩ (.int .i64 y.kind)).setCell ⟨Y, 2, none⟩ (.int .i64 y.size)).setCell ⟨Y, 3, none⟩ (.int .i64 y.dur)).setCell ⟨Y, 4, none⟩ (.bool y.chg)).cell? ⟨w.heap.size + 1, 4, none⟩ = some (.int .i64 x.k) := HA9.out.all
      have z0 := TZ5.out.c0; have k0 := TZ5.out.f 0
      have z1 := TZ5.out.c1; have k1 := TZ5.out.f 1
      have z2 := TZ5.out.c2; have k2 := TZ5.out.f 2
      have z3 := TZ5.out.c3; have k3 := TZ5.out.f 3
      have z4 := TZ5.out.c4; have k4 := TZ5.out.f 4
      refine wpAnyH_ready (rs := [9]) (by kernel_rfl) (by simp) (AllReadyH.cons rfl (fun K hK => ?_) AllReadyH.nil)
      go_simp
      refine hK.out _ _ ?_ (fun hHeld => ?_)
      · exact hqB
      clear hK K z0 z1 z2 z3 z4 k0 k1 k2 k3 k4 hq gF
      try simp only [List.getElem_toArray, List.getElem_cons_succ, List.getElem_cons_zero, Act.put, List.setIfInBounds_toArray, List.set_cons_zero, List.set_cons_succ]
      refine wpAnyH_take (i := 10) (v := ?_) rfl (by kernel_rfl) (by kernel_rfl) (by kernel_rfl) (fun _ _ _ h => h) (Or.inl ⟨by rfl, ?_⟩) (by assumption) ?_
      rotate_left
      · (intro w hSw; (try dsimp only at hSw); go_simp; (try with_reducible rfl))
      try simp only [List.getElem_toArray, List.getElem_cons_succ, List.getElem_cons_zero, Act.put, List.setIfInBounds_toArray, List.set_cons_zero, List.set_cons_succ]
      refine wpAnyH_done (by kernel_rfl) ?_ _
      clear hHeld hqB
      rw [show (((((y5.setCell ⟨Y, 0, none⟩ (.int .i64 y.node)).setCell ⟨Y, 1, none⟩ (.int .i64 y.kind)).setCell ⟨Y, 2, none⟩ (.int .i64 y.size)).setCell ⟨Y, 3, none⟩ (.int .i64 y.dur)).setCell ⟨Y, 4, none⟩ (.bool y.chg)) = (setDesc y5 Y y.node y.kind y.size y.dur y.chg) from rfl]
      generalize (setDesc y5 Y y.node y.kind y.size y.dur y.chg) = w7 at HA9 TY ⊢
      go_wp2_with fail
      go_meet
      exact ⟨_, rfl, Y, rfl, rfl, HA9, TY⟩
  case rest =>
  obtain ⟨wc1, rfl, J1, rfl, rfl, HA5, HW1⟩ := hcut
  clear HA2 HA2d
  obtain ⟨q0, q1, q2, q3⟩ := HA5.out.arg.box.all
  go_wp2_with fail
  refine (HTO.out _ HA5.out.arg.below).mono ?_
  rintro e w6 ⟨v5, hv5, rfl, o5, b6⟩
  have HV5 := Lib.hid hv5
  have HA6 := Lib.hid (HA5.out.call b6)
  have HW6 := Lib.hid (HW1.out.below b6 HW1.out.lt)
  have HX := Lib.hid (VarB.start (o5.rd (by rw [hv5]; exact HS.out)))
  have HA7 := Lib.hid (HA6.out.call ((Below.refl w6.heap.size w6).alloc (Nat.le_refl _) (.cells #[.int .i64 v5.id, .slice v5.no v5.n.length v5.nc, .slice v5.mo v5.cs.length v5.mc, .slice v5.eo v5.e.length v5.ec] 28)))
  have HW7 := Lib.hid (HW6.out.below ((Below.refl w6.heap.size w6).alloc (Nat.le_refl _) (.cells #[.int .i64 v5.id, .slice v5.no v5.n.length v5.nc, .slice v5.mo v5.cs.length v5.mc, .slice v5.eo v5.e.length v5.ec] 28)) HW6.out.lt)
  obtain ⟨X, hX⟩ : ∃ X, X = w6.heap.size := ⟨_, rfl⟩
  rw [← hX] at HX
  clear q0 q1 q2 q3 HA6 b6 o5 hv5
  unfold mvVal
  go_upto_region 7 with fail
  rw [← hX]
  clear hX
  generalize w6.alloc (.cells #[.int .i64 v5.id, .slice v5.no v5.n.length v5.nc, .slice v5.mo v5.cs.length v5.mc, .slice v5.eo v5.e.length v5.ec] 28) = w7 at HX HA7 HW7 ⊢
  have HA7d := Lib.hid (HA7.out.call (Below.drew (Below.refl w7.heap.size w7)))
  have HX7d := Lib.hid (HX.out.call (Below.drew (Below.refl w7.heap.size w7)))
  go_cut [9, 10] (fun s6 s7 wx => ∃ wy, wy = wx ∧ ∃ J, s6 = .pointer (some ⟨J, 0, none⟩) ∧ s7 = .int .i64 q1 ∧ Hid (ArgLu w wy u0 x) ∧ Hid (VarB w6 wy X v5) ∧ Hid (DescAt 44 wy J1 y.node y.kind y.size y.dur y.chg) ∧ Hid (DescAt 44 wy J y.node y.kind y.size y.dur y.chg))
  case first =>
    have HA1 := HA7d
    have HX1 := HX7d
    have HW1 := Lib.hid (HW7.out.below (Below.drew (Below.refl w7.heap.size w7)) HW7.out.lt)
    have hq : w7.drew.cell? ⟨X, 0, none⟩ = some (.int .i64 v5.id) ∧ w7.drew.cell? ⟨X, 1, none⟩ = some (.slice v5.no v5.n.length v5.nc) ∧ w7.drew.cell? ⟨X, 2, none⟩ = some (.slice v5.mo v5.cs.length v5.mc) ∧ w7.drew.cell? ⟨X, 3, none⟩ = some (.slice v5.eo v5.e.length v5.ec) ∧ w7.drew.cell? ⟨w.heap.size, 0, none⟩ = some (.int .i64 u0.id) ∧ w7.drew.cell? ⟨w.heap.size, 1, none⟩ = some (.slice u0.no u0.n.length u0.nc) ∧ w7.drew.cell? ⟨w.heap.size, 2, none⟩ = some (.slice u0.mo u0.cs.length u0.mc) ∧ w7.drew.cell? ⟨w.heap.size, 3, none⟩ = some (.slice u0.eo u0.e.length u0.ec) ∧ w7.drew.cell? ⟨w.heap.size + 1, 0, none⟩ = some (.int .i64 x.t) ∧ w7.drew.cell? ⟨w.heap.size + 1, 1, none⟩ = some (.int .i64 x.m) ∧ w7.drew.cell? ⟨w.heap.size + 1, 2, none⟩ = some (.int .i64 x.r) ∧ w7.drew.cell? ⟨w.heap.size + 1, 3, none⟩ = some (.int .i64 x.s) ∧ w7.drew.cell? ⟨w.heap.size + 1, 4, none⟩ = some (.int .i64 x.k) := ⟨HX1.out.box.all.1, HX1.out.box.all.2.1, HX1.out.box.all.2.2.1, HX1.out.box.all.2.2.2, HA1.out.all⟩
    refine wp_region_held_drew (S := fun w' => w'.cell? ⟨X, 0, none⟩ = some (.int .i64 v5.id) ∧ w'.cell? ⟨X, 1, none⟩ = some (.slice v5.no v5.n.length v5.nc) ∧ w'.cell? ⟨X, 2, none⟩ = some (.slice v5.mo v5.cs.length v5.mc) ∧ w'.cell? ⟨X, 3, none⟩ = some (.slice v5.eo v5.e.length v5.ec) ∧ w'.cell? ⟨w.heap.size, 0, none⟩ = some (.int .i64 u0.id) ∧ w'.cell? ⟨w.heap.size, 1, none⟩ = some (.slice u0.no u0.n.length u0.nc) ∧ w'.cell? ⟨w.heap.size, 2, none⟩ = some (.slice u0.mo u0.cs.length u0.mc) ∧ w'.cell? ⟨w.heap.size, 3, none⟩ = some (.slice u0.eo u0.e.length u0.ec) ∧ w'.cell? ⟨w.heap.size + 1, 0, none⟩ = some (.int .i64 x.t) ∧ w'.cell? ⟨w.heap.size + 1, 1, none⟩ = some (.int .i64 x.m) ∧ w'.cell? ⟨w.heap.size + 1, 2, none⟩ = some (.int .i64 x.r) ∧ w'.cell? ⟨w.heap.size + 1, 3, none⟩ = some (.int .i64 x.s) ∧ w'.cell? ⟨w.heap.size + 1, 4, none⟩ = some (.int .i64 x.k)) (by kernel_rfl) (hq) (fun hHeld => ?_)
    generalize w7.drew = y1 at HA1 HX1 HW1 hq hHeld ⊢
    refine wpAnyH_take (i := 0) (v := ?_) rfl (by kernel_rfl) (by kernel_rfl) (by kernel_rfl) (fun _ _ _ h => h) (Or.inl ⟨by rfl, ?_⟩) (by assumption) ?_
    rotate_left
    · (intro w hSw; (try dsimp only at hSw); go_simp; (try with_reducible rfl))
    try simp only [List.getElem_toArray, List.getElem_cons_succ, List.getElem_cons_zero, Act.put, List.setIfInBounds_toArray, List.set_cons_zero, List.set_cons_succ]
    refine wpAnyH_take (i := 1) (v := ?_) rfl (by kernel_rfl) (by kernel_rfl) (by kernel_rfl) (fun _ _ _ h => h) (Or.inl ⟨by rfl, ?_⟩) (by assumption) ?_
    rotate_left
    · (intro w hSw; (try dsimp only at hSw); go_simp; (try with_reducible rfl))
    try simp only [List.getElem_toArray, List.getElem_cons_succ, List.getElem_cons_zero, Act.put, List.setIfInBounds_toArray, List.set_cons_zero, List.set_cons_succ]
    refine wpAnyH_ready (rs := [2, 7]) (by kernel_rfl) (by simp) (AllReadyH.cons rfl (fun K hK => ?_) (AllReadyH.cons rfl (fun K hK => ?_) (AllReadyH.nil)))
    · go_simp
      refine (toState_any _ _ _ _ _ _).mono ?_
      rintro e y2 ⟨rfl, b2⟩
      have HA2 := Lib.hid (HA1.out.call b2)
      have HX2 := Lib.hid (HX1.out.call b2)
      have HW2 := Lib.hid (HW1.out.below b2 HW1.out.lt)
      clear b2 hq HA1 HX1 HW1
      have hq : y2.cell? ⟨X, 0, none⟩ = some (.int .i64 v5.id) ∧ y2.cell? ⟨X, 1, none⟩ = some (.slice v5.no v5.n.length v5.nc) ∧ y2.cell? ⟨X, 2, none⟩ = some (.slice v5.mo v5.cs.length v5.mc) ∧ y2.cell? ⟨X, 3, none⟩ = some (.slice v5.eo v5.e.length v5.ec) ∧ y2.cell? ⟨w.heap.size, 0, none⟩ = some (.int .i64 u0.id) ∧ y2.cell? ⟨w.heap.size, 1, none⟩ = some (.slice u0.no u0.n.length u0.nc) ∧ y2.cell? ⟨w.heap.size, 2, none⟩ = some (.slice u0.mo u0.cs.length u0.mc) ∧ y2.cell? ⟨w.heap.size, 3, none⟩ = some (.slice u0.eo u0.e.length u0.ec) ∧ y2.cell? ⟨w.heap.size + 1, 0, none⟩ = some (.int .i64 x.t) ∧ y2.cell? ⟨w.heap.size + 1, 1, none⟩ = some (.int .i64 x.m) ∧ y2.cell? ⟨w.heap.size + 1, 2, none⟩ = some (.int .i64 x.r) ∧ y2.cell? ⟨w.heap.size + 1, 3, none⟩ = some (.int .i64 x.s) ∧ y2.cell? ⟨w.heap.size + 1, 4, none⟩ = some (.int .i64 x.k) := ⟨HX2.out.box.all.1, HX2.out.box.all.2.1, HX2.out.box.all.2.2.1, HX2.out.box.all.2.2.2, HA2.out.all⟩
      go_wp2_with fail
      refine hK.out _ _ ?_ (fun hHeld => ?_)
      · exact hq
      clear hK K
      try simp only [List.getElem_toArray, List.getElem_cons_succ, List.getElem_cons_zero, Act.put, List.setIfInBounds_toArray, List.set_cons_zero, List.set_cons_succ]
      refine wpAnyH_ready (rs := [3, 7]) (by kernel_rfl) (by simp) (AllReadyH.cons rfl (fun K hK => ?_) (AllReadyH.cons rfl (fun K hK => ?_) (AllReadyH.nil)))
      · go_simp
        refine (HCI.out _ _ HV5.out HX2.out.rd).mono ?_
        rintro e y3 ⟨rfl, b3⟩
        have HA3 := Lib.hid (HA2.out.call b3)
        have HX3 := Lib.hid (HX2.out.call b3)
        have HW3 := Lib.hid (HW2.out.below b3 HW2.out.lt)
        clear b3 hq HA2 HX2 HW2
        have hq : y3.cell? ⟨X, 0, none⟩ = some (.int .i64 v5.id) ∧ y3.cell? ⟨X, 1, none⟩ = some (.slice v5.no v5.n.length v5.nc) ∧ y3.cell? ⟨X, 2, none⟩ = some (.slice v5.mo v5.cs.length v5.mc) ∧ y3.cell? ⟨X, 3, none⟩ = some (.slice v5.eo v5.e.length v5.ec) ∧ y3.cell? ⟨w.heap.size, 0, none⟩ = some (.int .i64 u0.id) ∧ y3.cell? ⟨w.heap.size, 1, none⟩ = some (.slice u0.no u0.n.length u0.nc) ∧ y3.cell? ⟨w.heap.size, 2, none⟩ = some (.slice u0.mo u0.cs.length u0.mc) ∧ y3.cell? ⟨w.heap.size, 3, none⟩ = some (.slice u0.eo u0.e.length u0.ec) ∧ y3.cell? ⟨w.heap.size + 1, 0, none⟩ = some (.int .i64 x.t) ∧ y3.cell? ⟨w.heap.size + 1, 1, none⟩ = some (.int .i64 x.m) ∧ y3.cell? ⟨w.heap.size + 1, 2, none⟩ = some (.int .i64 x.r) ∧ y3.cell? ⟨w.heap.size + 1, 3, none⟩ = some (.int .i64 x.s) ∧ y3.cell? ⟨w.heap.size + 1, 4, none⟩ = some (.int .i64 x.k) := ⟨HX3.out.box.all.1, HX3.out.box.all.2.1, HX3.out.box.all.2.2.1, HX3.out.box.all.2.2.2, HA3.out.all⟩
        go_wp2_with fail
        refine hK.out _ _ ?_ (fun hHeld => ?_)
        · exact hq
        clear hK K
        try simp only [List.getElem_toArray, List.getElem_cons_succ, List.getElem_cons_zero, Act.put, List.setIfInBounds_toArray, List.set_cons_zero, List.set_cons_succ]
        refine wpAnyH_take (i := 4) (v := ?_) rfl (by kernel_rfl) (by kernel_rfl) (by kernel_rfl) (fun _ _ _ h => h) (Or.inl ⟨by rfl, ?_⟩) (by assumption) ?_
        rotate_left
        · (intro w hSw; (try dsimp only at hSw); go_simp; (try with_reducible rfl))
        try simp only [List.getElem_toArray, List.getElem_cons_succ, List.getElem_cons_zero, Act.put, List.setIfInBounds_toArray, List.set_cons_zero, List.set_cons_succ]
        refine wpAnyH_take (i := 5) (v := ?_) rfl (by kernel_rfl) (by kernel_rfl) (by kernel_rfl) (fun _ _ _ h => h) (Or.inl ⟨by rfl, ?_⟩) (by assumption) ?_
        rotate_left
        · (intro w hSw; (try dsimp only at hSw); go_simp; (try with_reducible rfl))
        try simp only [List.getElem_toArray, List.getElem_cons_succ, List.getElem_cons_zero, Act.put, List.setIfInBounds_toArray, List.set_cons_zero, List.set_cons_succ]
        refine wpAnyH_take (i := 6) (v := ?_) rfl (by kernel_rfl) (by kernel_rfl) (by kernel_rfl) (fun _ _ _ h => h) (Or.inl ⟨by rfl, ?_⟩) (by assumption) ?_
        rotate_left
        · (intro w hSw; (try dsimp only at hSw); go_simp; (try with_reducible rfl))
        try simp only [List.getElem_toArray, List.getElem_cons_succ, List.getElem_cons_zero, Act.put, List.setIfInBounds_toArray, List.set_cons_zero, List.set_cons_succ]
        have bZ := (Below.refl y3.heap.size y3).alloc (Nat.le_refl _) (.cells #[.int .i64 0, .int .i64 0, .int .i64 0, .int .i64 0, .bool false] 44)
        have HA8 := Lib.hid (HA3.out.call bZ)
        have HX8 := Lib.hid (HX3.out.call bZ)
        have HW8 := Lib.hid (HW3.out.below bZ HW3.out.lt)
        have hqA : (y3.alloc (.cells #[.int .i64 0, .int .i64 0, .int .i64 0, .int .i64 0, .bool false] 44)).cell? ⟨X, 0, none⟩ = some (.int .i64 v5.id) ∧ (y3.alloc (.cells #[.int .i64 0, .int .i64 0, .int .i64 0, .int .i64 0, .bool false] 44)).cell? ⟨X, 1, none⟩ = some (.slice v5.no v5.n.length v5.nc) ∧ (y3.alloc (.cells #[.int .i64 0, .int .i64 0, .int .i64 0, .int .i64 0, .bool false] 44)).cell? ⟨X, 2, none⟩ = some (.slice v5.mo v5.cs.length v5.mc) ∧ (y3.alloc (.cells #[.int .i64 0, .int .i64 0, .int .i64 0, .int .i64 0, .bool false] 44)).cell? ⟨X, 3, none⟩ = some (.slice v5.eo v5.e.length v5.ec) ∧ (y3.alloc (.cells #[.int .i64 0, .int .i64 0, .int .i64 0, .int .i64 0, .bool false] 44)).cell? ⟨w.heap.size, 0, none⟩ = some (.int .i64 u0.id) ∧ (y3.alloc (.cells #[.int .i64 0, .int .i64 0, .int .i64 0, .int .i64 0, .bool false] 44)).cell? ⟨w.heap.size, 1, none⟩ = some (.slice u0.no u0.n.length u0.nc) ∧ (y3.alloc (.cells #[.int .i64 0, .int .i64 0, .int .i64 0, .int .i64 0, .bool false] 44)).cell? ⟨w.heap.size, 2, none⟩ = some (.slice u0.mo u0.cs.length u0.mc) ∧ (y3.alloc (.cells #[.int .i64 0, .int .i64 0, .int .i64 0, .int .i64 0, .bool false] 44)).cell? ⟨w.heap.size, 3, none⟩ = some (.slice u0.eo u0.e.length u0.ec) ∧ (y3.alloc (.cells #[.int .i64 0, .int .i64 0, .int .i64 0, .int .i64 0, .bool false] 44)).cell? ⟨w.heap.size + 1, 0, none⟩ = some (.int .i64 x.t) ∧ (y3.alloc (.cells #[.int .i64 0, .int .i64 0, .int .i64 0, .int .i64 0, .bool false] 44)).cell? ⟨w.heap.size + 1, 1, none⟩ = some (.int .i64 x.m) ∧ (y3.alloc (.cells #[.int .i64 0, .int .i64 0, .int .i64 0, .int .i64 0, .bool false] 44)).cell? ⟨w.heap.size + 1, 2, none⟩ = some (.int .i64 x.r) ∧ (y3.alloc (.cells #[.int .i64 0, .int .i64 0, .int .i64 0, .int .i64 0, .bool false] 44)).cell? ⟨w.heap.size + 1, 3, none⟩ = some (.int .i64 x.s) ∧ (y3.alloc (.cells #[.int .i64 0, .int .i64 0, .int .i64 0, .int .i64 0, .bool false] 44)).cell? ⟨w.heap.size + 1, 4, none⟩ = some (.int .i64 x.k) := ⟨HX8.out.box.all.1, HX8.out.box.all.2.1, HX8.out.box.all.2.2.1, HX8.out.box.all.2.2.2, HA8.out.all⟩
        refine wpAnyH_ready (rs := [7]) (by kernel_rfl) (by simp) (AllReadyH.cons rfl (fun K hK => ?_) AllReadyH.nil)
        go_simp
        refine hK.out _ _ ?_ (fun hHeld => ?_)
        · exact hqA
        clear hK K
        try simp only [List.getElem_toArray, List.getElem_cons_succ, List.getElem_cons_zero, Act.put, List.setIfInBounds_toArray, List.set_cons_zero, List.set_cons_succ]
        have bS := (Below.refl y3.heap.size y3).alloc (Nat.le_refl _) (.cells #[.int .i64 y.node, .int .i64 y.kind, .int .i64 y.size, .int .i64 y.dur, .bool y.chg] 44)
        have HA9 := Lib.hid (HA3.out.call bS)
        have HX9 := Lib.hid (HX3.out.call bS)
        have HW9 := Lib.hid (HW3.out.below bS HW3.out.lt)
        have TY := Lib.hid (DescAt.new (T := 44) (n := y.node) (a := y.kind) (z := y.size) (u := y.dur) (c := y.chg) y3)
        have hqB : (y3.alloc (.cells #[.int .i64 y.node, .int .i64 y.kind, .int .i64 y.size, .int .i64 y.dur, .bool y.chg] 44)).cell? ⟨X, 0, none⟩ = some (.int .i64 v5.id) ∧ (y3.alloc (.cells #[.int .i64 y.node, .int .i64 y.kind, .int .i64 y.size, .int .i64 y.dur, .bool y.chg] 44)).cell? ⟨X, 1, none⟩ = some (.slice v5.no v5.n.length v5.nc) ∧ (y3.alloc (.cells #[.int .i64 y.node, .int .i64 y.kind, .int .i64 y.size, .int .i64 y.dur, .bool y.chg] 44)).cell? ⟨X, 2, none⟩ = some (.slice v5.mo v5.cs.length v5.mc) ∧ (y3.alloc (.cells #[.int .i64 y.node, .int .i64 y.kind, .int .i64 y.size, .int .i64 y.dur, .bool y.chg] 44)).cell? ⟨X, 3, none⟩ = some (.slice v5.eo v5.e.length v5.ec) ∧ (y3.alloc (.cells #[.int .i64 y.node, .int .i64 y.kind, .int .i64 y.size, .int .i64 y.dur, .bool y.chg] 44)).cell? ⟨w.heap.size, 0, none⟩ = some (.int .i64 u0.id) ∧ (y3.alloc (.cells #[.int .i64 y.node, .int .i64 y.kind, .int .i64 y.size, .int .i64 y.dur, .bool y.chg] 44)).cell? ⟨w.heap.size, 1, none⟩ = some (.slice u0.no u0.n.length u0.nc) ∧ (y3.alloc (.cells #[.int .i64 y.node, .int .i64 y.kind, .int .i64 y.size, .int .i64 y.dur, .bool y.chg] 44)).cell? ⟨w.heap.size, 2, none⟩ = some (.slice u0.mo u0.cs.length u0.mc) ∧ (y3.alloc (.cells #[.int .i64 y.node, .int .i64 y.kind, .int .i64 y.size, .int .i64 y.dur, .bool y.chg] 44)).cell? ⟨w.heap.size, 3, none⟩ = some (.slice u0.eo u0.e.length u0.ec) ∧ (y3.alloc (.cells #[.int .i64 y.node, .int .i64 y.kind, .int .i64 y.size, .int .i64 y.dur, .bool y.chg] 44)).cell? ⟨w.heap.size + 1, 0, none⟩ = some (.int .i64 x.t) ∧ (y3.alloc (.cells #[.int .i64 y.node, .int .i64 y.kind, .int .i64 y.size, .int .i64 y.dur, .bool y.chg] 44)).cell? ⟨w.heap.size + 1, 1, none⟩ = some (.int .i64 x.m) ∧ (y3.alloc (.cells #[.int .i64 y.node, .int .i64 y.kind, .int .i64 y.size, .int .i64 y.dur, .bool y.chg] 44)).cell? ⟨w.heap.size + 1, 2, none⟩ = some (.int .i64 x.r) ∧ (y3.alloc (.cells #[.int .i64 y.node, .int .i64 y.kind, .int .i64 y.size, .int .i64 y.dur, .bool y.chg] 44)).cell? ⟨w.heap.size + 1, 3, none⟩ = some (.int .i64 x.s) ∧ (y3.alloc (.cells #[.int .i64 y.node, .int .i64 y.kind, .int .i64 y.size, .int .i64 y.dur, .bool y.chg] 44)).cell? ⟨w.heap.size + 1, 4, none⟩ = some (.int .i64 x.k) := ⟨HX9.out.box.all.1, HX9.out.box.all.2.1, HX9.out.box.all.2.2.1, HX9.out.box.all.2.2.2, HA9.out.all⟩
        refine wpAnyH_ready (rs := [8]) (by kernel_rfl) (by simp) (AllReadyH.cons rfl (fun K hK => ?_) AllReadyH.nil)
        go_simp
        refine hK.out _ _ ?_ (fun hHeld => ?_)
        · exact hqB
        clear hK K
        try simp only [List.getElem_toArray, List.getElem_cons_succ, List.getElem_cons_zero, Act.put, List.setIfInBounds_toArray, List.set_cons_zero, List.set_cons_succ]
        refine wpAnyH_take (i := 9) (v := ?_) rfl (by kernel_rfl) (by kernel_rfl) (by kernel_rfl) (fun _ _ _ h => h) (Or.inl ⟨by rfl, ?_⟩) (by assumption) ?_
        rotate_left
        · (intro w hSw; (try dsimp only at hSw); go_simp; (try with_reducible rfl))
        try simp only [List.getElem_toArray, List.getElem_cons_succ, List.getElem_cons_zero, Act.put, List.setIfInBounds_toArray, List.set_cons_zero, List.set_cons_succ]
        refine wpAnyH_done (by kernel_rfl) ?_ _
        clear hq hqA hqB bZ bS hHeld HA8 HX8 HW8 HA3 HX3 HW3
        obtain ⟨Y, hY⟩ : ∃ Y, Y = y3.heap.size := ⟨_, rfl⟩
        rw [← hY] at TY ⊢
        clear hY
        generalize y3.alloc (.cells #[.int .i64 y.node, .int .i64 y.kind, .int .i64 y.size, .int .i64 y.dur, .bool y.chg] 44) = w7 at HA9 HX9 HW9 TY ⊢
        go_wp2_with fail
        go_meet
        exact ⟨_, rfl, Y, rfl, rfl, HA9, HX9, HW9, TY⟩
      · have bZ := (Below.refl y2.heap.size y2).alloc (Nat.le_refl _) (.cells #[.int .i64 0, .int .i64 0, .int .i64 0, .int .i64 0, .bool false] 44)
        have HA3 := Lib.hid (HA2.out.call bZ)
        have HX3 := Lib.hid (HX2.out.call bZ)
        have HW3 := Lib.hid (HW2.out.below bZ HW2.out.lt)
        have TZ3 := Lib.hid (DescAt.new (T := 44) (n := 0) (a := 0) (z := 0) (u := 0) (c := false) y2)
        have HY := Lib.hid (show w.heap.size + 1 < y2.heap.size from StateAt.lt HA2.out.st)
        have HYX := Lib.hid (show X < y2.heap.size from HX2.out.box.lt)
        have HYW := Lib.hid (show J1 < y2.heap.size from HW2.out.lt)
        have hqA : (y2.alloc (.cells #[.int .i64 0, .int .i64 0, .int .i64 0, .int .i64 0, .bool false] 44)).cell? ⟨X, 0, none⟩ = some (.int .i64 v5.id) ∧ (y2.alloc (.cells #[.int .i64 0, .int .i64 0, .int .i64 0, .int .i64 0, .bool false] 44)).cell? ⟨X, 1, none⟩ = some (.slice v5.no v5.n.length v5.nc) ∧ (y2.alloc (.cells #[.int .i64 0, .int .i64 0, .int .i64 0, .int .i64 0, .bool false] 44)).cell? ⟨X, 2, none⟩ = some (.slice v5.mo v5.cs.length v5.mc) ∧ (y2.alloc (.cells #[.int .i64 0, .int .i64 0, .int .i64 0, .int .i64 0, .bool false] 44)).cell? ⟨X, 3, none⟩ = some (.slice v5.eo v5.e.length v5.ec) ∧ (y2.alloc (.cells #[.int .i64 0, .int .i64 0, .int .i64 0, .int .i64 0, .bool false] 44)).cell? ⟨w.heap.size, 0, none⟩ = some (.int .i64 u0.id) ∧ (y2.alloc (.cells #[.int .i64 0, .int .i64 0, .int .i64 0, .int .i64 0, .bool false] 44)).cell? ⟨w.heap.size, 1, none⟩ = some (.slice u0.no u0.n.length u0.nc) ∧ (y2.alloc (.cells #[.int .i64 0, .int .i64 0, .int .i64 0, .int .i64 0, .bool false] 44)).cell? ⟨w.heap.size, 2, none⟩ = some (.slice u0.mo u0.cs.length u0.mc) ∧ (y2.alloc (.cells #[.int .i64 0, .int .i64 0, .int .i64 0, .int .i64 0, .bool false] 44)).cell? ⟨w.heap.size, 3, none⟩ = some (.slice u0.eo u0.e.length u0.ec) ∧ (y2.alloc (.cells #[.int .i64 0, .int .i64 0, .int .i64 0, .int .i64 0, .bool false] 44)).cell? ⟨w.heap.size + 1, 0, none⟩ = some (.int .i64 x.t) ∧ (y2.alloc (.cells #[.int .i64 0, .int .i64 0, .int .i64 0, .int .i64 0, .bool false] 44)).cell? ⟨w.heap.size + 1, 1, none⟩ = some (.int .i64 x.m) ∧ (y2.alloc (.cells #[.int .i64 0, .int .i64 0, .int .i64 0, .int .i64 0, .bool false] 44)).cell? ⟨w.heap.size + 1, 2, none⟩ = some (.int .i64 x.r) ∧ (y2.alloc (.cells #[.int .i64 0, .int .i64 0, .int .i64 0, .int .i64 0, .bool false] 44)).cell? ⟨w.heap.size + 1, 3, none⟩ = some (.int .i64 x.s) ∧ (y2.alloc (.cells #[.int .i64 0, .int .i64 0, .int .i64 0, .int .i64 0, .bool false] 44)).cell? ⟨w.heap.size + 1, 4, none⟩ = some (.int .i64 x.k) := ⟨HX3.out.box.all.1, HX3.out.box.all.2.1, HX3.out.box.all.2.2.1, HX3.out.box.all.2.2.2, HA3.out.all⟩
        go_simp
        refine hK.out _ _ ?_ (fun hHeld => ?_)
        · exact hqA
        clear hK K hq bZ HA2 HX2 HW2
        obtain ⟨Y, hY⟩ : ∃ Y, Y = y2.heap.size := ⟨_, rfl⟩
        rw [← hY] at TZ3 HY HYX HYW ⊢
        clear hY
        generalize y2.alloc (.cells #[.int .i64 0, .int .i64 0, .int .i64 0, .int .i64 0, .bool false] 44) = y3 at HA3 HX3 HW3 TZ3 hqA hHeld ⊢
        have hq := hqA
        clear hqA
        try simp only [List.getElem_toArray, List.getElem_cons_succ, List.getElem_cons_zero, Act.put, List.setIfInBounds_toArray, List.set_cons_zero, List.set_cons_succ]
        refine wpAnyH_ready (rs := [3]) (by kernel_rfl) (by simp) (AllReadyH.cons rfl (fun K hK => ?_) AllReadyH.nil)
        go_simp
        refine (HCI.out _ _ HV5.out HX3.out.rd).mono ?_
        rintro e y4 ⟨rfl, b4⟩
        have HA4 := Lib.hid (HA3.out.call b4)
        have HX4 := Lib.hid (HX3.out.call b4)
        have HW4 := Lib.hid (HW3.out.below b4 HW3.out.lt)
        have TZ4 := Lib.hid (TZ3.out.below b4 TZ3.out.lt)
        clear b4 hq HA3 HX3 HW3 TZ3
        have hq : y4.cell? ⟨X, 0, none⟩ = some (.int .i64 v5.id) ∧ y4.cell? ⟨X, 1, none⟩ = some (.slice v5.no v5.n.length v5.nc) ∧ y4.cell? ⟨X, 2, none⟩ = some (.slice v5.mo v5.cs.length v5.mc) ∧ y4.cell? ⟨X, 3, none⟩ = some (.slice v5.eo v5.e.length v5.ec) ∧ y4.cell? ⟨w.heap.size, 0, none⟩ = some (.int .i64 u0.id) ∧ y4.cell? ⟨w.heap.size, 1, none⟩ = some (.slice u0.no u0.n.length u0.nc) ∧ y4.cell? ⟨w.heap.size, 2, none⟩ = some (.slice u0.mo u0.cs.length u0.mc) ∧ y4.cell? ⟨w.heap.size, 3, none⟩ = some (.slice u0.eo u0.e.length u0.ec) ∧ y4.cell? ⟨w.heap.size + 1, 0, none⟩ = some (.int .i64 x.t) ∧ y4.cell? ⟨w.heap.size + 1, 1, none⟩ = some (.int .i64 x.m) ∧ y4.cell? ⟨w.heap.size + 1, 2, none⟩ = some (.int .i64 x.r) ∧ y4.cell? ⟨w.heap.size + 1, 3, none⟩ = some (.int .i64 x.s) ∧ y4.cell? ⟨w.heap.size + 1, 4, none⟩ = some (.int .i64 x.k) := ⟨HX4.out.box.all.1, HX4.out.box.all.2.1, HX4.out.box.all.2.2.1, HX4.out.box.all.2.2.2, HA4.out.all⟩
        go_wp2_with fail
        refine hK.out _ _ ?_ (fun hHeld => ?_)
        · exact hq
        clear hK K
        try simp only [List.getElem_toArray, List.getElem_cons_succ, List.getElem_cons_zero, Act.put, List.setIfInBounds_toArray, List.set_cons_zero, List.set_cons_succ]
        refine wpAnyH_take (i := 4) (v := ?_) rfl (by kernel_rfl) (by kernel_rfl) (by kernel_rfl) (fun _ _ _ h => h) (Or.inl ⟨by rfl, ?_⟩) (by assumption) ?_
        rotate_left
        · (intro w hSw; (try dsimp only at hSw); go_simp; (try with_reducible rfl))
        try simp only [List.getElem_toArray, List.getElem_cons_succ, List.getElem_cons_zero, Act.put, List.setIfInBounds_toArray, List.set_cons_zero, List.set_cons_succ]
        refine wpAnyH_take (i := 5) (v := ?_) rfl (by kernel_rfl) (by kernel_rfl) (by kernel_rfl) (fun _ _ _ h => h) (Or.inl ⟨by rfl, ?_⟩) (by assumption) ?_
        rotate_left
        · (intro w hSw; (try dsimp only at hSw); go_simp; (try with_reducible rfl))
        try simp only [List.getElem_toArray, List.getElem_cons_succ, List.getElem_cons_zero, Act.put, List.setIfInBounds_toArray, List.set_cons_zero, List.set_cons_succ]
        refine wpAnyH_take (i := 6) (v := ?_) rfl (by kernel_rfl) (by kernel_rfl) (by kernel_rfl) (fun _ _ _ h => h) (Or.inl ⟨by rfl, ?_⟩) (by assumption) ?_
        rotate_left
        · (intro w hSw; (try dsimp only at hSw); go_simp; (try with_reducible rfl))
        try simp only [List.getElem_toArray, List.getElem_cons_succ, List.getElem_cons_zero, Act.put, List.setIfInBounds_toArray, List.set_cons_zero, List.set_cons_succ]
        have gF := grown_descL y4 Y y.node y.kind y.size y.dur y.chg
        have HA9 := Lib.hid (HA4.out.other HY.out gF)
        have HX9 := Lib.hid (HX4.out.otherL HYX.out gF)
        have HW9 := Lib.hid (HW4.out.grown gF (fun e => by injection e with e; have := HYW.out; omega))
        have TY := Lib.hid (TZ4.out.five y.node y.kind y.size y.dur y.chg)
        have hqB : (((((y4.setCell ⟨Y, 0, none⟩ (.int .i64 y.node)).setCell ⟨Y, 1, none⟩ (.int .i64 y.kind)).setCell ⟨Y, 2, none⟩ (.int .i64 y.size)).setCell ⟨Y, 3, none⟩ (.int .i64 y.dur)).setCell ⟨Y, 4, none⟩ (.bool y.chg)).cell? ⟨X, 0, none⟩ = some (.int .i64 v5.id) ∧ (((((y4.setCell ⟨Y, 0, none⟩ (.int .i64 y.node)).setCell ⟨Y, 1, none⟩ (.int .i64 y.kind)).setCell ⟨Y, 2, none⟩ (.int .i64 y.size)).setCell ⟨Y, 3, none⟩ (.int .i64 y.dur)).setCell ⟨Y, 4, none⟩ (.bool y.chg)).cell? ⟨X, 1, none⟩ = some (.slice v5.no v5.n.length v5.nc) ∧ (((((y4.setCell ⟨Y, 0, none⟩ (.int .i64 y.node)).setCell ⟨Y, 1, none⟩ (.int .i64 y.kind)).setCell ⟨Y, 2, none⟩ (.int .i64 y.size)).setCell ⟨Y, 3, none⟩ (.int .i64 y.dur)).setCell ⟨Y, 4, none⟩ (.bool y.chg)).cell? ⟨X, 2, none⟩ = some (.slice v5.mo v5.cs.length v5.mc) ∧ (((((y4.setCell ⟨Y, 0, none⟩ (.int .i64 y.node)).setCell ⟨Y, 1, none⟩ (.int .i64 y.kind)).setCell ⟨Y, 2, none⟩ (.int .i64 y.size)).setCell ⟨Y, 3, none⟩ (.int .i64 y.dur)).setCell ⟨Y, 4, none⟩ (.bool y.chg)).cell? ⟨X, 3, none⟩ = some (.slice v5.eo v5.e.length v5.ec) ∧ (((((y4.setCell ⟨Y, 0, none⟩ (.int .i64 y.node)).setCell ⟨Y, 1, none⟩ (.int .i64 y.kind)).setCell ⟨Y, 2, none⟩ (.int .i64 y.size)).setCell ⟨Y, 3, none⟩ (.int .i64 y.dur)).setCell ⟨Y, 4, none⟩ (.bool y.chg)).cell? ⟨w.heap.size, 0, none⟩ = some (.int .i64 u0.id) ∧ (((((y4.setCell ⟨Y, 0, none⟩ (.int .i64 y.node)).setCell ⟨Y, 1, none⟩ (.int .i64 y.kind)).setCell ⟨Y, 2, none⟩ (.int .i64 y.size)).setCell ⟨Y, 3, none⟩ (.int .i64 y.dur)).setCell ⟨Y, 4, none⟩ (.bool y.chg)).cell? ⟨w.heap.size, 1, none⟩ = some (.slice u0.no u0.n.length u0.nc) ∧ (((((y4.setCell ⟨Y, 0, none⟩ (.int .i64 y.node)).setCell ⟨Y, 1, none⟩ (.int .i64 y.kind)).setCell ⟨Y, 2, none⟩ (.int .i64 y.size)).setCell ⟨Y, 3, none⟩ (.int .i64 y.dur)).setCell ⟨Y, 4, none⟩ (.bool y.chg)).cell? ⟨w.heap.size, 2, none⟩ = some (.slice u0.mo u0.cs.length u0.mc) ∧ (((((y4.setCell ⟨Y, 0, none⟩ (.int .i64 y.node)).setCell ⟨Y, 1, none⟩ (.int .i64 y.kind)).setCell ⟨Y, 2, none⟩ (.int .i64 y.size)).setCell ⟨Y, 3, none⟩ (.int .i64 y.dur)).setCell ⟨Y, 4, none⟩ (.bool y.chg)).cell? ⟨w.heap.size, 3, none⟩ = some (.slice u0.eo u0.e.length u0.ec) ∧ (((((y4.setCell ⟨Y, 0, none⟩ (.int .i64 y.node)).setCell ⟨Y, 1, none⟩ (.int .i64 y.kind)).setCell ⟨Y, 2, none⟩ (.int .i64 y.size)).setCell ⟨Y, 3, none⟩ (.int .i64 y.dur)).setCell ⟨Y, 4, none⟩ (.bool y.chg)).cell? ⟨w.heap.size + 1, 0, none⟩ = some (.int .i64 x.t) ∧ (((((y4.setCell ⟨Y, 0, none⟩ (.int .i64 y.node)).setCell ⟨Y, 1, none⟩ (.int .i64 y.kind)).setCell ⟨Y, 2, none⟩ (.int .i64 y.size)).setCell ⟨Y, 3, none⟩ (.int .i64 y.dur)).setCell ⟨Y, 4, none⟩ (.bool y.chg)).cell? ⟨w.heap.size + 1, 1, none⟩ = some (.int .i64 x.m) ∧ (((((y4.setCell ⟨Y, 0, none⟩ (.int .i64 y.node)).setCell ⟨Y, 1, none⟩ (.int .i64 y.kind)).setCell ⟨Y, 2, none⟩ (.int .i64 y.size)).setCell ⟨Y, 3, none⟩ (.int .i64 y.dur)).setCell ⟨Y, 4, none⟩ (.bool y.chg)).cell? ⟨w.heap.size + 1, 2, none⟩ = some (.int .i64 x.r) ∧ (((((y4.setCell ⟨Y, 0, none⟩ (.int .i64 y.node)).setCell ⟨Y, 1, none⟩ (.int .i64 y.kind)).setCell ⟨Y, 2, none⟩ (.int .i64 y.size)).setCell ⟨Y, 3, none⟩ (.int .i64 y.dur)).setCell ⟨Y, 4, none⟩ (.bool y.chg)).cell? ⟨w.heap.size + 1, 3, none⟩ = some (.int .i64 x.s) ∧ (((((y4.setCell ⟨Y, 0, none⟩ (.int .i64 y.node)).setCell ⟨Y, 1, none⟩ (.int .i64 y.kind)).setCell ⟨Y, 2, none⟩ (.int .i64 y.size)).setCell ⟨Y, 3, none⟩ (.int .i64 y.dur)).setCell ⟨Y, 4, none⟩ (.bool y.chg)).cell? ⟨w.heap.size + 1, 4, none⟩ = some (.int .i64 x.k) := ⟨HX9.out.box.all.1, HX9.out.box.all.2.1, HX9.out.box.all.2.2.1, HX9.out.box.all.2.2.2, HA9.out.all⟩
        have z0 := TZ4.out.c0; have k0 := TZ4.out.f 0
        have z1 := TZ4.out.c1; have k1 := TZ4.out.f 1
        have z2 := TZ4.out.c2; have k2 := TZ4.out.f 2
        have z3 := TZ4.out.c3; have k3 := TZ4.out.f 3
        have z4 := TZ4.out.c4; have k4 := TZ4.out.f 4
        refine wpAnyH_ready (rs := [8]) (by kernel_rfl) (by simp) (AllReadyH.cons rfl (fun K hK => ?_) AllReadyH.nil)
        go_simp
        refine hK.out _ _ ?_ (fun hHeld => ?_)
        · exact hqB
        clear hK K z0 z1 z2 z3 z4 k0 k1 k2 k3 k4 hq gF
        try simp only [List.getElem_toArray, List.getElem_cons_succ, List.getElem_cons_zero, Act.put, List.setIfInBounds_toArray, List.set_cons_zero, List.set_cons_succ]
        refine wpAnyH_take (i := 9) (v := ?_) rfl (by kernel_rfl) (by kernel_rfl) (by kernel_rfl) (fun _ _ _ h => h) (Or.inl ⟨by rfl, ?_⟩) (by assumption) ?_
        rotate_left
        · (intro w hSw; (try dsimp only at hSw); go_simp; (try with_reducible rfl))
        try simp only [List.getElem_toArray, List.getElem_cons_succ, List.getElem_cons_zero, Act.put, List.setIfInBounds_toArray, List.set_cons_zero, List.set_cons_succ]
        refine wpAnyH_done (by kernel_rfl) ?_ _
        clear hHeld hqB
        rw [show (((((y4.setCell ⟨Y, 0, none⟩ (.int .i64 y.node)).setCell ⟨Y, 1, none⟩ (.int .i64 y.kind)).setCell ⟨Y, 2, none⟩ (.int .i64 y.size)).setCell ⟨Y, 3, none⟩ (.int .i64 y.dur)).setCell ⟨Y, 4, none⟩ (.bool y.chg)) = (setDesc y4 Y y.node y.kind y.size y.dur y.chg) from rfl]
        generalize (setDesc y4 Y y.node y.kind y.size y.dur y.chg) = w7 at HA9 HX9 HW9 TY ⊢
        go_wp2_with fail
        go_meet
        exact ⟨_, rfl, Y, rfl, rfl, HA9, HX9, HW9, TY⟩
    · have bZ := (Below.refl y1.heap.size y1).alloc (Nat.le_refl _) (.cells #[.int .i64 0, .int .i64 0, .int .i64 0, .int .i64 0, .bool false] 44)
      have HA2 := Lib.hid (HA1.out.call bZ)
      have HX2 := Lib.hid (HX1.out.call bZ)
      have HW2 := Lib.hid (HW1.out.below bZ HW1.out.lt)
      have TZ2 := Lib.hid (DescAt.new (T := 44) (n := 0) (a := 0) (z := 0) (u := 0) (c := false) y1)
      have HY := Lib.hid (show w.heap.size + 1 < y1.heap.size from StateAt.lt HA1.out.st)
      have HYX := Lib.hid (show X < y1.heap.size from HX1.out.box.lt)
      have HYW := Lib.hid (show J1 < y1.heap.size from HW1.out.lt)
      have hqA : (y1.alloc (.cells #[.int .i64 0, .int .i64 0, .int .i64 0, .int .i64 0, .bool false] 44)).cell? ⟨X, 0, none⟩ = some (.int .i64 v5.id) ∧ (y1.alloc (.cells #[.int .i64 0, .int .i64 0, .int .i64 0, .int .i64 0, .bool false] 44)).cell? ⟨X, 1, none⟩ = some (.slice v5.no v5.n.length v5.nc) ∧ (y1.alloc (.cells #[.int .i64 0, .int .i64 0, .int .i64 0, .int .i64 0, .bool false] 44)).cell? ⟨X, 2, none⟩ = some (.slice v5.mo v5.cs.length v5.mc) ∧ (y1.alloc (.cells #[.int .i64 0, .int .i64 0, .int .i64 0, .int .i64 0, .bool false] 44)).cell? ⟨X, 3, none⟩ = some (.slice v5.eo v5.e.length v5.ec) ∧ (y1.alloc (.cells #[.int .i64 0, .int .i64 0, .int .i64 0, .int .i64 0, .bool false] 44)).cell? ⟨w.heap.size, 0, none⟩ = some (.int .i64 u0.id) ∧ (y1.alloc (.cells #[.int .i64 0, .int .i64 0, .int .i64 0, .int .i64 0, .bool false] 44)).cell? ⟨w.heap.size, 1, none⟩ = some (.slice u0.no u0.n.length u0.nc) ∧ (y1.alloc (.cells #[.int .i64 0, .int .i64 0, .int .i64 0, .int .i64 0, .bool false] 44)).cell? ⟨w.heap.size, 2, none⟩ = some (.slice u0.mo u0.cs.length u0.mc) ∧ (y1.alloc (.cells #[.int .i64 0, .int .i64 0, .int .i64 0, .int .i64 0, .bool false] 44)).cell? ⟨w.heap.size, 3, none⟩ = some (.slice u0.eo u0.e.length u0.ec) ∧ (y1.alloc (.cells #[.int .i64 0, .int .i64 0, .int .i64 0, .int .i64 0, .bool false] 44)).cell? ⟨w.heap.size + 1, 0, none⟩ = some (.int .i64 x.t) ∧ (y1.alloc (.cells #[.int .i64 0, .int .i64 0, .int .i64 0, .int .i64 0, .bool false] 44)).cell? ⟨w.heap.size + 1, 1, none⟩ = some (.int .i64 x.m) ∧ (y1.alloc (.cells #[.int .i64 0, .int .i64 0, .int .i64 0, .int .i64 0, .bool false] 44)).cell? ⟨w.heap.size + 1, 2, none⟩ = some (.int .i64 x.r) ∧ (y1.alloc (.cells #[.int .i64 0, .int .i64 0, .int .i64 0, .int .i64 0, .bool false] 44)).cell? ⟨w.heap.size + 1, 3, none⟩ = some (.int .i64 x.s) ∧ (y1.alloc (.cells #[.int .i64 0, .int .i64 0, .int .i64 0, .int .i64 0, .bool false] 44)).cell? ⟨w.heap.size + 1, 4, none⟩ = some (.int .i64 x.k) := ⟨HX2.out.box.all.1, HX2.out.box.all.2.1, HX2.out.box.all.2.2.1, HX2.out.box.all.2.2.2, HA2.out.all⟩
      go_simp
      refine hK.out _ _ ?_ (fun hHeld => ?_)
      · exact hqA
      clear hK K hq bZ HA1 HX1 HW1
      obtain ⟨Y, hY⟩ : ∃ Y, Y = y1.heap.size := ⟨_, rfl⟩
      rw [← hY] at TZ2 HY HYX HYW ⊢
      clear hY
      generalize y1.alloc (.cells #[.int .i64 0, .int .i64 0, .int .i64 0, .int .i64 0, .bool false] 44) = y2 at HA2 HX2 HW2 TZ2 hqA hHeld ⊢
      have hq := hqA
      clear hqA
      try simp only [List.getElem_toArray, List.getElem_cons_succ, List.getElem_cons_zero, Act.put, List.setIfInBounds_toArray, List.set_cons_zero, List.set_cons_succ]
      refine wpAnyH_ready (rs := [2]) (by kernel_rfl) (by simp) (AllReadyH.cons rfl (fun K hK => ?_) AllReadyH.nil)
      go_simp
      refine (toState_any _ _ _ _ _ _).mono ?_
      rintro e y3 ⟨rfl, b3⟩
      have HA3 := Lib.hid (HA2.out.call b3)
      have HX3 := Lib.hid (HX2.out.call b3)
      have HW3 := Lib.hid (HW2.out.below b3 HW2.out.lt)
      have TZ3 := Lib.hid (TZ2.out.below b3 TZ2.out.lt)
      clear b3 hq HA2 HX2 HW2 TZ2
      have hq : y3.cell? ⟨X, 0, none⟩ = some (.int .i64 v5.id) ∧ y3.cell? ⟨X, 1, none⟩ = some (.slice v5.no v5.n.length v5.nc) ∧ y3.cell? ⟨X, 2, none⟩ = some (.slice v5.mo v5.cs.length v5.mc) ∧ y3.cell? ⟨X, 3, none⟩ = some (.slice v5.eo v5.e.length v5.ec) ∧ y3.cell? ⟨w.heap.size, 0, none⟩ = some (.int .i64 u0.id) ∧ y3.cell? ⟨w.heap.size, 1, none⟩ = some (.slice u0.no u0.n.length u0.nc) ∧ y3.cell? ⟨w.heap.size, 2, none⟩ = some (.slice u0.mo u0.cs.length u0.mc) ∧ y3.cell? ⟨w.heap.size, 3, none⟩ = some (.slice u0.eo u0.e.length u0.ec) ∧ y3.cell? ⟨w.heap.size + 1, 0, none⟩ = some (.int .i64 x.t) ∧ y3.cell? ⟨w.heap.size + 1, 1, none⟩ = some (.int .i64 x.m) ∧ y3.cell? ⟨w.heap.size + 1, 2, none⟩ = some (.int .i64 x.r) ∧ y3.cell? ⟨w.heap.size + 1, 3, none⟩ = some (.int .i64 x.s) ∧ y3.cell? ⟨w.heap.size + 1, 4, none⟩ = some (.int .i64 x.k) := ⟨HX3.out.box.all.1, HX3.out.box.all.2.1, HX3.out.box.all.2.2.1, HX3.out.box.all.2.2.2, HA3.out.all⟩
      go_wp2_with fail
      refine hK.out _ _ ?_ (fun hHeld => ?_)
      · exact hq
      clear hK K
      try simp only [List.getElem_toArray, List.getElem_cons_succ, List.getElem_cons_zero, Act.put, List.setIfInBounds_toArray, List.set_cons_zero, List.set_cons_succ]
      refine wpAnyH_ready (rs := [3]) (by kernel_rfl) (by simp) (AllReadyH.cons rfl (fun K hK => ?_) AllReadyH.nil)
      go_simp
      refine (HCI.out _ _ HV5.out HX3.out.rd).mono ?_
      rintro e y4 ⟨rfl, b4⟩
      have HA4 := Lib.hid (HA3.out.call b4)
      have HX4 := Lib.hid (HX3.out.call b4)
      have HW4 := Lib.hid (HW3.out.below b4 HW3.out.lt)
      have TZ4 := Lib.hid (TZ3.out.below b4 TZ3.out.lt)
      clear b4 hq HA3 HX3 HW3 TZ3
      have hq : y4.cell? ⟨X, 0, none⟩ = some (.int .i64 v5.id) ∧ y4.cell? ⟨X, 1, none⟩ = some (.slice v5.no v5.n.length v5.nc) ∧ y4.cell? ⟨X, 2, none⟩ = some (.slice v5.mo v5.cs.length v5.mc) ∧ y4.cell? ⟨X, 3, none⟩ = some (.slice v5.eo v5.e.length v5.ec) ∧ y4.cell? ⟨w.heap.size, 0, none⟩ = some (.int .i64 u0.id) ∧ y4.cell? ⟨w.heap.size, 1, none⟩ = some (.slice u0.no u0.n.length u0.nc) ∧ y4.cell? ⟨w.heap.size, 2, none⟩ = some (.slice u0.mo u0.cs.length u0.mc) ∧ y4.cell? ⟨w.heap.size, 3, none⟩ = some (.slice u0.eo u0.e.length u0.ec) ∧ y4.cell? ⟨w.heap.size + 1, 0, none⟩ = some (.int .i64 x.t) ∧ y4.cell? ⟨w.heap.size + 1, 1, none⟩ = some (.int .i64 x.m) ∧ y4.cell? ⟨w.heap.size + 1, 2, none⟩ = some (.int .i64 x.r) ∧ y4.cell? ⟨w.heap.size + 1, 3, none⟩ = some (.int .i64 x.s) ∧ y4.cell? ⟨w.heap.size + 1, 4, none⟩ = some (.int .i64 x.k) := ⟨HX4.out.box.all.1, HX4.out.box.all.2.1, HX4.out.box.all.2.2.1, HX4.out.box.all.2.2.2, HA4.out.all⟩
      go_wp2_with fail
      refine hK.out _ _ ?_ (fun hHeld => ?_)
      · exact hq
      clear hK K
      try simp only [List.getElem_toArray, List.getElem_cons_succ, List.getElem_cons_zero, Act.put, List.setIfInBounds_toArray, List.set_cons_zero, List.set_cons_succ]
      refine wpAnyH_take (i := 4) (v := ?_) rfl (by kernel_rfl) (by kernel_rfl) (by kernel_rfl) (fun _ _ _ h => h) (Or.inl ⟨by rfl, ?_⟩) (by assumption) ?_
      rotate_left
      · (intro w hSw; (try dsimp only at hSw); go_simp; (try with_reducible rfl))
      try simp only [List.getElem_toArray, List.getElem_cons_succ, List.getElem_cons_zero, Act.put, List.setIfInBounds_toArray, List.set_cons_zero, List.set_cons_succ]
      refine wpAnyH_take (i := 5) (v := ?_) rfl (by kernel_rfl) (by kernel_rfl) (by kernel_rfl) (fun _ _ _ h => h) (Or.inl ⟨by rfl, ?_⟩) (by assumption) ?_
      rotate_left
      · (intro w hSw; (try dsimp only at hSw); go_simp; (try with_reducible rfl))
      try simp only [List.getElem_toArray, List.getElem_cons_succ, List.getElem_cons_zero, Act.put, List.setIfInBounds_toArray, List.set_cons_zero, List.set_cons_succ]
      refine wpAnyH_take (i := 6) (v := ?_) rfl (by kernel_rfl) (by kernel_rfl) (by kernel_rfl) (fun _ _ _ h => h) (Or.inl ⟨by rfl, ?_⟩) (by assumption) ?_
      rotate_left
      · (intro w hSw; (try dsimp only at hSw); go_simp; (try with_reducible rfl))
      try simp only [List.getElem_toArray, List.getElem_cons_succ, List.getElem_cons_zero, Act.put, List.setIfInBounds_toArray, List.set_cons_zero, List.set_cons_succ]
      have gF := grown_descL y4 Y y.node y.kind y.size y.dur y.chg
      have HA9 := Lib.hid (HA4.out.other HY.out gF)
      have HX9 := Lib.hid (HX4.out.otherL HYX.out gF)
      have HW9 := Lib.hid (HW4.out.grown gF (fun e => by injection e with e; have := HYW.out; omega))
      have TY := Lib.hid (TZ4.out.five y.node y.kind y.size y.dur y.chg)
      have hqB : (((((y4.setCell ⟨Y, 0, none⟩ (.int .i64 y.node)).setCell ⟨Y, 1, none⟩ (.int .i64 y.kind)).setCell ⟨Y, 2, none⟩ (.int .i64 y.size)).setCell ⟨Y, 3, none⟩ (.int .i64 y.dur)).setCell ⟨Y, 4, none⟩ (.bool y.chg)).cell? ⟨X, 0, none⟩ = some (.int .i64 v5.id) ∧ (((((y4.setCell ⟨Y, 0, none⟩ (.int .i64 y.node)).setCell ⟨Y, 1, none⟩ (.int .i64 y.kind)).setCell ⟨Y, 2, none⟩ (.int .i64 y.size)).setCell ⟨Y, 3, none⟩ (.int .i64 y.dur)).setCell ⟨Y, 4, none⟩ (.bool y.chg)).cell? ⟨X, 1, none⟩ = some (.slice v5.no v5.n.length v5.nc) ∧ (((((y4.setCell ⟨Y, 0, none⟩ (.int .i64 y.node)).setCell ⟨Y, 1, none⟩ (.int .i64 y.kind)).setCell ⟨Y, 2, none⟩ (.int .i64 y.size)).setCell ⟨Y, 3, none⟩ (.int .i64 y.dur)).setCell ⟨Y, 4, none⟩ (.bool y.chg)).cell? ⟨X, 2, none⟩ = some (.slice v5.mo v5.cs.length v5.mc) ∧ (((((y4.setCell ⟨Y, 0, none⟩ (.int .i64 y.node)).setCell ⟨Y, 1, none⟩ (.int .i64 y.kind)).setCell ⟨Y, 2, none⟩ (.int .i64 y.size)).setCell ⟨Y, 3, none⟩ (.int .i64 y.dur)).setCell ⟨Y, 4, none⟩ (.bool y.chg)).cell? ⟨X, 3, none⟩ = some (.slice v5.eo v5.e.length v5.ec) ∧ (((((y4.setCell ⟨Y, 0, none⟩ (.int .i64 y.node)).setCell ⟨Y, 1, none⟩ (.int .i64 y.kind)).setCell ⟨Y, 2, none⟩ (.int .i64 y.size)).setCell ⟨Y, 3, none⟩ (.int .i64 y.dur)).setCell ⟨Y, 4, none⟩ (.bool y.chg)).cell? ⟨w.heap.size, 0, none⟩ = some (.int .i64 u0.id) ∧ (((((y4.setCell ⟨Y, 0, none⟩ (.int .i64 y.node)).setCell ⟨Y, 1, none⟩ (.int .i64 y.kind)).setCell ⟨Y, 2, none⟩ (.int .i64 y.size)).setCell ⟨Y, 3, none⟩ (.int .i64 y.dur)).setCell ⟨Y, 4, none⟩ (.bool y.chg)).cell? ⟨w.heap.size, 1, none⟩ = some (.slice u0.no u0.n.length u0.nc) ∧ (((((y4.setCell ⟨Y, 0, none⟩ (.int .i64 y.node)).setCell ⟨Y, 1, none⟩ (.int .i64 y.kind)).setCell ⟨Y, 2, none⟩ (.int .i64 y.size)).setCell ⟨Y, 3, none⟩ (.int .i64 y.dur)).setCell ⟨Y, 4, none⟩ (.bool y.chg)).cell? ⟨w.heap.size, 2, none⟩ = some (.slice u0.mo u0.cs.length u0.mc) ∧ (((((y4.setCell ⟨Y, 0, none⟩ (.int .i64 y.node)).setCell ⟨Y, 1, none⟩ (.int .i64 y.kind)).setCell ⟨Y, 2, none⟩ (.int .i64 y.size)).setCell ⟨Y, 3, none⟩ (.int .i64 y.dur)).setCell ⟨Y, 4, none⟩ (.bool y.chg)).cell? ⟨w.heap.size, 3, none⟩ = some (.slice u0.eo u0.e.length u0.ec) ∧ (((((y4.setCell ⟨Y, 0, none⟩ (.int .i64 y.node)).setCell ⟨Y, 1, none⟩ (.int .i64 y.kind)).setCell ⟨Y, 2, none⟩ (.int .i64 y.size)).setCell ⟨Y, 3, none⟩ (.int .i64 y.dur)).setCell ⟨Y, 4, none⟩ (.bool y.chg)).cell? ⟨w.heap.size + 1, 0, none⟩ = some (.int .i64 x.t) ∧ (((((y4.setCell ⟨Y, 0, none⟩ (.int .i64 y.node)).setCell ⟨Y, 1, none⟩ (.int .i64 y.kind)).setCell ⟨Y, 2, none⟩ (.int .i64 y.size)).setCell ⟨Y, 3, none⟩ (.int .i64 y.dur)).setCell ⟨Y, 4, none⟩ (.bool y.chg)).cell? ⟨w.heap.size + 1, 1, none⟩ = some (.int .i64 x.m) ∧ (((((y4.setCell ⟨Y, 0, none⟩ (.int .i64 y.node)).setCell ⟨Y, 1, none⟩ (.int .i64 y.kind)).setCell ⟨Y, 2, none⟩ (.int .i64 y.size)).setCell ⟨Y, 3, none⟩ (.int .i64 y.dur)).setCell ⟨Y, 4, none⟩ (.bool y.chg)).cell? ⟨w.heap.size + 1, 2, none⟩ = some (.int .i64 x.r) ∧ (((((y4.setCell ⟨Y, 0, none⟩ (.int .i64 y.node)).setCell ⟨Y, 1, none⟩ (.int .i64 y.kind)).setCell ⟨Y, 2, none⟩ (.int .i64 y.size)).setCell ⟨Y, 3, none⟩ (.int .i64 y.dur)).setCell ⟨Y, 4, none⟩ (.bool y.chg)).cell? ⟨w.heap.size + 1, 3, none⟩ = some (.int .i64 x.s) ∧ (((((y4.setCell ⟨Y, 0, none⟩ (.int .i64 y.node)).setCell ⟨Y, 1, none⟩ (.int .i64 y.kind)).setCell ⟨Y, 2, none⟩ (.int .i64 y.size)).setCell ⟨Y, 3, none⟩ (.int .i64 y.dur)).setCell ⟨Y, 4, none⟩ (.bool y.chg)).cell? ⟨w.heap.size + 1, 4, none⟩ = some (.int .i64 x.k) := ⟨HX9.out.box.all.1, HX9.out.box.all.2.1, HX9.out.box.all.2.2.1, HX9.out.box.all.2.2.2, HA9.out.all⟩
      have z0 := TZ4.out.c0; have k0 := TZ4.out.f 0
      have z1 := TZ4.out.c1; have k1 := TZ4.out.f 1
      have z2 := TZ4.out.c2; have k2 := TZ4.out.f 2
      have z3 := TZ4.out.c3; have k3 := TZ4.out.f 3
      have z4 := TZ4.out.c4; have k4 := TZ4.out.f 4
      refine wpAnyH_ready (rs := [8]) (by kernel_rfl) (by simp) (AllReadyH.cons rfl (fun K hK => ?_) AllReadyH.nil)
      go_simp
      refine hK.out _ _ ?_ (fun hHeld => ?_)
      · exact hqB
      clear hK K z0 z1 z2 z3 z4 k0 k1 k2 k3 k4 hq gF
      try simp only [List.getElem_toArray, List.getElem_cons_succ, List.getElem_cons_zero, Act.put, List.setIfInBounds_toArray, List.set_cons_zero, List.set_cons_succ]
      refine wpAnyH_take (i := 9) (v := ?_) rfl (by kernel_rfl) (by kernel_rfl) (by kernel_rfl) (fun _ _ _ h => h) (Or.inl ⟨by rfl, ?_⟩) (by assumption) ?_
      rotate_left
      · (intro w hSw; (try dsimp only at hSw); go_simp; (try with_reducible rfl))
      try simp only [List.getElem_toArray, List.getElem_cons_succ, List.getElem_cons_zero, Act.put, List.setIfInBounds_toArray, List.set_cons_zero, List.set_cons_succ]
      refine wpAnyH_done (by kernel_rfl) ?_ _
      clear hHeld hqB
      rw [show (((((y4.setCell ⟨Y, 0, none⟩ (.int .i64 y.node)).setCell ⟨Y, 1, none⟩ (.int .i64 y.kind)).setCell ⟨Y, 2, none⟩ (.int .i64 y.size)).setCell ⟨Y, 3, none⟩ (.int .i64 y.dur)).setCell ⟨Y, 4, none⟩ (.bool y.chg)) = (setDesc y4 Y y.node y.kind y.size y.dur y.chg) from rfl]
      generalize (setDesc y4 Y y.node y.kind y.size y.dur y.chg) = w7 at HA9 HX9 HW9 TY ⊢
      go_wp2_with fail
      go_meet
      exact ⟨_, rfl, Y, rfl, rfl, HA9, HX9, HW9, TY⟩
  case rest =>
  obtain ⟨wc2, rfl, J2, rfl, rfl, HA9, HX9, HW9, HG1⟩ := hcut
  clear HA7 HA7d HX HX7d
  have a0 := HG1.out.c0; have b0 := HW9.out.c0
  have a1 := HG1.out.c1; have b1 := HW9.out.c1
  have a2 := HG1.out.c2; have b2 := HW9.out.c2
  have a3 := HG1.out.c3; have b3 := HW9.out.c3
  have a4 := HG1.out.c4; have b4 := HW9.out.c4
  go_wp2_with fail
  refine (eqDesc_yes y _).mono ?_
  rintro e w10 ⟨rfl, b10⟩
  have HA10 := Lib.hid (HA9.out.call b10)
  have HX10 := Lib.hid (HX9.out.call b10)
  clear a0 a1 a2 a3 a4 b0 b1 b2 b3 b4 b10 HA9 HX9
  have HA9 := HA10
  have HX9 := HX10
  go_wp2_with fail
  have HAd := Lib.hid (HA9.out.call (Below.drew (Below.refl w10.heap.size w10)))
  have HXd := Lib.hid (HX9.out.call (Below.drew (Below.refl w10.heap.size w10)))
  go_region_held3 (fun w' => w'.cell? ⟨X, 0, none⟩ = some (.int .i64 v5.id) ∧ w'.cell? ⟨X, 1, none⟩ = some (.slice v5.no v5.n.length v5.nc) ∧ w'.cell? ⟨X, 2, none⟩ = some (.slice v5.mo v5.cs.length v5.mc) ∧ w'.cell? ⟨X, 3, none⟩ = some (.slice v5.eo v5.e.length v5.ec) ∧ w'.cell? ⟨w.heap.size, 0, none⟩ = some (.int .i64 u0.id) ∧ w'.cell? ⟨w.heap.size, 1, none⟩ = some (.slice u0.no u0.n.length u0.nc) ∧ w'.cell? ⟨w.heap.size, 2, none⟩ = some (.slice u0.mo u0.cs.length u0.mc) ∧ w'.cell? ⟨w.heap.size, 3, none⟩ = some (.slice u0.eo u0.e.length u0.ec) ∧ w'.cell? ⟨w.heap.size + 1, 0, none⟩ = some (.int .i64 x.t) ∧ w'.cell? ⟨w.heap.size + 1, 1, none⟩ = some (.int .i64 x.m) ∧ w'.cell? ⟨w.heap.size + 1, 2, none⟩ = some (.int .i64 x.r) ∧ w'.cell? ⟨w.heap.size + 1, 3, none⟩ = some (.int .i64 x.s) ∧ w'.cell? ⟨w.heap.size + 1, 4, none⟩ = some (.int .i64 x.k))
    (first | exact ⟨HXd.out.box.all.1, HXd.out.box.all.2.1, HXd.out.box.all.2.2.1, HXd.out.box.all.2.2.2, HAd.out.all⟩ | exact ⟨HXa.out.box.all.1, HXa.out.box.all.2.1, HXa.out.box.all.2.2.1, HXa.out.box.all.2.2.2, HAa.out.all⟩ | exact ⟨HXb.out.box.all.1, HXb.out.box.all.2.1, HXb.out.box.all.2.2.1, HXb.out.box.all.2.2.2, HAb.out.all⟩)
    (first
      | (go_at_call 39; (with_reducible refine (HTO.out _ HAd.out.arg.below).mono ?_); rintro e wa ⟨va, hva, rfl, oa, ba⟩; have HVa := Lib.hid hva; have HRa := Lib.hid (oa.rd (by rw [hva]; exact HS.out)); have HAa := Lib.hid (HAd.out.call ba); have HXa := Lib.hid (HXd.out.call ba); clear ba oa hva; unfold mvVal)
      | (go_at_call 41; (with_reducible refine (HEQ.out _ _ _ HV5.out HVa.out HXa.out.rd HRa.out).mono ?_); rintro e wb ⟨rfl, bb⟩; have HAb := Lib.hid (HAa.out.call bb); have HXb := Lib.hid (HXa.out.call bb); clear bb))
  go_wp2_with fail
  go_ret
  exact ⟨rfl, HAb.out.arg.below⟩
end Go.Proofs.YtnbbbndfpehinaaGreat.fnExactDescriptorFor
