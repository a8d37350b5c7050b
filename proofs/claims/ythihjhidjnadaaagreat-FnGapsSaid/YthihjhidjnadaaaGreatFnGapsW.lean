/-
  The walk of laws.FnGaps: at every input it returns true and writes nothing that was there.
-/
import Derived.Test.YthihjhidjnadaaaGreatRows
import Derived.Test.YthihjhidjnadaaaGreatP21A
import Derived.Test.YthihjhidjnadaaaGreatP21N
import Derived.Test.YthihjhidjnadaaaGreatP21M
import Derived.Test.YthihjhidjnadaaaGreatP21E
import Derived.Test.YthihjhidjnadaaaGreatP21S
import Derived.Test.YthihjhidjnadaaaGreatP21L
import Derived.Test.YthihjhidjnadaaaGreatP21Z
import Derived.Test.YthihjhidjnadaaaGreatP21I
import Derived.Test.YthihjhidjnadaaaGreatP21T
import Derived.Test.YthihjhidjnadaaaGreatP21C
import Derived.Test.YthihjhidjnadaaaGreatP21D
import Derived.Test.YthihjhidjnadaaaGreatP21K
import Derived.Test.YthihjhidjnadaaaGreatP21G
import Derived.Test.YthihjhidjnadaaaGreatP21U
import Derived.Test.YthihjhidjnadaaaGreatP21X
import Derived.Test.YthihjhidjnadaaaGreatP21F
import Derived.Test.YthihjhidjnadaaaGreatP21V
import Derived.Test.YthihjhidjnadaaaGreatP21O
import Derived.Test.YthihjhidjnadaaaGreatP21H
import Derived.Test.YthihjhidjnadaaaGreatP21B
import Derived.WalkKit
import Derived.ProofKit
import Derived.OpenShut
import Derived.ShutString
import Derived.ChangeOld
import Derived.Below
namespace Go.Proofs.YthihjhidjnadaaaGreat.fnGaps
open Go.ChangeShapes Go.WideShapes Go.ChangeAt Go.RowKit
open Go.ChangeMaps (open_string shut_string)
set_option linter.unusedVariables false


/-- WHAT THE WALK IS TOLD OF A SLICE OF INTEGERS THAT CAME IN: it is nil; or it leads to a row of 'cap' cells, the numbers 'zs' (the first 'len' are its elements, the rest its spare room), each fitting its kind. -/
def IsRow (k : IntKind) (w : World) (a : Option Addr) (len cap : Nat) (zs : List Int) : Prop :=
  (a = none ∧ len = 0 ∧ cap = 0 ∧ zs = []) ∨
  ∃ x, a = some x ∧ len ≤ cap ∧ cap ≤ maxLen ∧ zs.length = cap ∧ (∀ i, i < zs.length → w.cell? (x.add i) = some (.int k (zs.getD i 0))) ∧ ∀ n ∈ zs, (Lit.int k n).wf = true

/-! ### STEP 1: THE WALK: the Go text returns true, AND WRITES NOTHING THAT WAS THERE: 'Below w.heap.size w w'' (Derived/Below.lean: '.refl', '.alloc', '.drew', '.setCell' at a new block, '.trans'). Open each 'IsRow' by 'rcases' AHEAD of 'go_enter'; part every test ahead of the walk. -/
set_option linter.unusedSimpArgs false in
set_option linter.unusedVariables false in
set_option maxRecDepth 100000 in
set_option maxHeartbeats 4000000 in
theorem walk (a0 : Option Addr) (len0 cap0 : Nat) (z0 : List Int) (w : World) (w0 : IsRow .u8 w a0 len0 cap0 z0) :
    Calls Tryz.prog 5 #[.slice a0 len0 cap0] w fun e w' => e = .returned (.bool true) ∧ Below w.heap.size w w' := by
  have hr := rdB_of_row w0
  clear w0
  generalize List.take len0 z0 = xs0 at hr
  have HR := Lib.hid hr; clear hr
  by_cases hbig : len0 ≤ 4096
  rotate_left
  · go_enter Tryz.func5, Tryz.ntmps5
    go_wp2_with fail
    refine (big_yes _ _ _ _ hbig).mono ?_
    rintro e w' ⟨rfl, rfl⟩
    go_wp2
    go_ret
    exact ⟨rfl, Below.refl _ _⟩
  go_enter Tryz.func5, Tryz.ntmps5
  go_wp2_with fail
  refine (big_no _ _ _ _ hbig).mono ?_
  rintro e w' ⟨rfl, rfl⟩
  go_wp2_with fail
  refine (drawGapsOf_any _ _ _ xs0 _ HR.out (by omega)).mono ?_
  rintro e w1 ⟨v, k, d, rfl, hlo, han, b1⟩
  have HRD := Lib.hid (fun W (hW : Below w1.heap.size w1 W) => (hlo.rd han).below hW)
  have HB1 := Lib.hid b1
  have HX1 := Lib.hid (Bk.start (T := 28) w1 v)
  obtain ⟨G, q, hG⟩ : ∃ t q, gapsOf v.me k d = (t, q) := ⟨_, _, rfl⟩
  obtain ⟨f1, c1, hF1⟩ : ∃ t q, worstGap v.me k d = (t, q) := ⟨_, _, rfl⟩
  obtain ⟨f2, c2, hF2⟩ : ∃ t q, jitterOf v.me k d = (t, q) := ⟨_, _, rfl⟩
  obtain ⟨cy, c3, hF3⟩ : ∃ t q, cycleTime v.me k = (t, q) := ⟨_, _, rfl⟩
  have HGI := Lib.hid (fun W (hW : Below w1.heap.size w1 W) => (show Calls Tryz.prog 36 #[mvVal v, .int .i64 k, .int .i64 d] W (Makes2 2 W G q) from by have h := gapsOf_any v k d W (HRD.out W hW); rwa [hG] at h))
  have HGS := Lib.hid (fun W (hW : Below w1.heap.size w1 W) => (show Calls Tryz.prog 37 #[mvVal v, .int .i64 k, .int .i64 d] W (Makes2 2 W G q) from by have h := sGapsOf_any v k d W (HRD.out W hW); rwa [hG] at h))
  have HWI := Lib.hid (fun W (hW : Below w1.heap.size w1 W) => (show Calls Tryz.prog 38 #[mvVal v, .int .i64 k, .int .i64 d] W fun e w' => e = .returned (.tuple #[.int .i64 f1, .int .i64 c1]) ∧ Below W.heap.size W w' from by have h := worstGap_any v k d W (HRD.out W hW); rwa [hF1] at h))
  have HWS := Lib.hid (fun W (hW : Below w1.heap.size w1 W) => (show Calls Tryz.prog 39 #[mvVal v, .int .i64 k, .int .i64 d] W fun e w' => e = .returned (.tuple #[.int .i64 f1, .int .i64 c1]) ∧ Below W.heap.size W w' from by have h := sWorstGap_any v k d W (HRD.out W hW); rwa [hF1] at h))
  have HJI := Lib.hid (fun W (hW : Below w1.heap.size w1 W) => (show Calls Tryz.prog 40 #[mvVal v, .int .i64 k, .int .i64 d] W fun e w' => e = .returned (.tuple #[.int .i64 f2, .int .i64 c2]) ∧ Below W.heap.size W w' from by have h := jitterOf_any v k d W (HRD.out W hW); rwa [hF2] at h))
  have HJS := Lib.hid (fun W (hW : Below w1.heap.size w1 W) => (show Calls Tryz.prog 41 #[mvVal v, .int .i64 k, .int .i64 d] W fun e w' => e = .returned (.tuple #[.int .i64 f2, .int .i64 c2]) ∧ Below W.heap.size W w' from by have h := sJitterOf_any v k d W (HRD.out W hW); rwa [hF2] at h))
  have HCY := Lib.hid (fun W (hW : Below w1.heap.size w1 W) => (show Calls Tryz.prog 23 #[mvVal v, .int .i64 k] W fun e w' => e = .returned (.tuple #[.int .i64 cy, .int .i64 c3]) ∧ Below W.heap.size W w' from by have h := cycleTime_any v k W (HRD.out W hW); rwa [hF3] at h))
  have HLAW := Lib.hid (fun (h0 : q = 0) => by
    have h := gaps_law (m := v.me) (k := k) (d := d) (g := G) (by rw [hG, h0])
    rw [hF1, hF2, hF3] at h
    exact h)
  have hgl : G.length ≤ 1048576 := by have h := gapsOf_len v.me k d; rw [hG] at h; exact h
  have hqq : (q != q) = false := bne_self_eq_false _
  have h11 : (f1 != f1) = false := bne_self_eq_false _
  have h12 : (c1 != c1) = false := bne_self_eq_false _
  have h21 : (f2 != f2) = false := bne_self_eq_false _
  have h22 : (c2 != c2) = false := bne_self_eq_false _
  clear hlo han b1 hG hF1 hF2 hF3 HR
  unfold mvVal at HGI HGS HWI HWS HJI HJS HCY ⊢
  go_upto_region 4 with fail
  generalize w1.alloc (.cells #[.int .i64 v.id, .slice v.no v.n.length v.nc, .slice v.mo v.cs.length v.mc, .slice v.eo v.e.length v.ec] 28) = wx at HX1 ⊢
  obtain ⟨z0, z1, z2, z3⟩ := HX1.out.at_.all
  go_wp2_with fail
  refine (HGI.out _ HX1.out.below).mono ?_
  rintro e wy1 ⟨vg, rfl, og, b⟩
  obtain ⟨ga, gc, rfl, -, gr⟩ := og.get
  have HX2 := Lib.hid (HX1.out.call b)
  have HRg := Lib.hid gr
  clear z0 z1 z2 z3 b og gr HX1
  obtain ⟨z0, z1, z2, z3⟩ := HX2.out.at_.all
  go_wp2_with fail
  refine (HGS.out _ HX2.out.below).mono ?_
  rintro e wy2 ⟨vs, rfl, os, b⟩
  obtain ⟨sa, sc, rfl, -, sr⟩ := os.get
  have HX3 := Lib.hid (HX2.out.call b)
  have HRs := Lib.hid sr
  have HRg2 := Lib.hid (HRg.out.below b)
  clear z0 z1 z2 z3 b os sr HX2
  obtain ⟨z0, z1, z2, z3⟩ := HX3.out.at_.all
  go_wp2_with fail
  refine (HWI.out _ HX3.out.below).mono ?_
  rintro e wy3 ⟨rfl, b⟩
  have HX4 := Lib.hid (HX3.out.call b)
  have HRg_3 := Lib.hid (HRg2.out.below b)
  have HRs_3 := Lib.hid (HRs.out.below b)
  clear z0 z1 z2 z3 b HX3
  obtain ⟨z0, z1, z2, z3⟩ := HX4.out.at_.all
  go_wp2_with fail
  refine (HWS.out _ HX4.out.below).mono ?_
  rintro e wy4 ⟨rfl, b⟩
  have HX5 := Lib.hid (HX4.out.call b)
  have HRg_4 := Lib.hid (HRg_3.out.below b)
  have HRs_4 := Lib.hid (HRs_3.out.below b)
  clear z0 z1 z2 z3 b HX4
  obtain ⟨z0, z1, z2, z3⟩ := HX5.out.at_.all
  go_wp2_with fail
  refine (HJI.out _ HX5.out.below).mono ?_
  rintro e wy5 ⟨rfl, b⟩
  have HX6 := Lib.hid (HX5.out.call b)
  have HRg_5 := Lib.hid (HRg_4.out.below b)
  have HRs_5 := Lib.hid (HRs_4.out.below b)
  clear z0 z1 z2 z3 b HX5
  obtain ⟨z0, z1, z2, z3⟩ := HX6.out.at_.all
  go_wp2_with fail
  refine (HJS.out _ HX6.out.below).mono ?_
  rintro e wy6 ⟨rfl, b⟩
  have HX7 := Lib.hid (HX6.out.call b)
  have HRg_6 := Lib.hid (HRg_5.out.below b)
  have HRs_6 := Lib.hid (HRs_5.out.below b)
  clear z0 z1 z2 z3 b HX6
  have HLK := Lib.hid (like_yes ga sa G.length G.length gc sc G wy6 HRg_6.out HRs_6.out (by omega))
  go_wp2_with fail
  refine HLK.out.mono ?_
  rintro e wy7 ⟨rfl, b⟩
  have HX8 := Lib.hid (HX7.out.call b)
  have HRg8 := Lib.hid (HRg_6.out.below b)
  clear b HX7 HLK
  by_cases hq0 : q = 0
  rotate_left
  · have hqb : (q != 0) = true := by simp [hq0]
    clear HLAW hq0
    go_wp2_with fail
    go_ret
    exact ⟨rfl, below_two HB1.out HX8.out.below⟩
  obtain ⟨g1, g2, e1, e2, e3, m1, m2, j0, hgb, hgl2, ⟨a1, a2⟩, a3⟩ := HLAW.out hq0
  obtain ⟨rfl, hc1⟩ := Prod.mk.inj e1
  obtain ⟨rfl, hc2⟩ := Prod.mk.inj e2
  obtain ⟨hcy, hc3⟩ := Prod.mk.inj e3
  rw [hc3] at HCY
  have hqb : (q != 0) = false := by simp [hq0]
  have hw1 : IntKind.i64.wrap (f1 - f2) = f1 - f2 := by rw [IntKind.wrap_i64]; omega
  have HSU := Lib.hid (fun W (hW : Rd W ga G.length G) => (show Calls Tryz.prog 43 #[.slice ga G.length gc] W fun e w' => e = .returned (.int .i64 cy) ∧ W = w' from by have h := sum17_any ga G.length gc G W hW hgl hgb; rwa [← hcy] at h))
  have HH1 := Lib.hid (fun W (hW : Rd W ga G.length G) => (show Calls Tryz.prog 34 #[.slice ga G.length gc, .int .i64 f1] W fun e w' => e = .returned (.bool true) ∧ W = w' from by have h := hasInt_any ga G.length gc G f1 W hW (by omega); rwa [decide_eq_true m1] at h))
  have HH2 := Lib.hid (fun W (hW : Rd W ga G.length G) => (show Calls Tryz.prog 34 #[.slice ga G.length gc, .int .i64 (f1 - f2)] W fun e w' => e = .returned (.bool true) ∧ W = w' from by have h := hasInt_any ga G.length gc G (f1 - f2) W hW (by omega); rwa [decide_eq_true m2] at h))
  clear e1 e2 e3 hc1 hc2 hc3 HLAW hcy hgb m1 m2 hq0 a1 a2 a3 hgl2 hgl
  obtain ⟨z0, z1, z2, z3⟩ := HX8.out.at_.all
  go_wp2_with fail
  refine (HCY.out _ HX8.out.below).mono ?_
  rintro e wy8 ⟨rfl, b⟩
  have HX9 := Lib.hid (HX8.out.call b)
  have HRg9 := Lib.hid (HRg8.out.below b)
  clear z0 z1 z2 z3 b HX8
  go_wp2_with fail
  refine (HSU.out _ HRg9.out).mono ?_
  rintro e wy9 ⟨rfl, rfl⟩
  go_wp2_with fail
  refine (HH1.out _ HRg9.out).mono ?_
  rintro e wy10 ⟨rfl, rfl⟩
  go_wp2_with fail
  refine (HH2.out _ HRg9.out).mono ?_
  rintro e wy11 ⟨rfl, rfl⟩
  go_wp2_with fail
  go_ret
  exact ⟨rfl, below_two HB1.out HX9.out.below⟩


end Go.Proofs.YthihjhidjnadaaaGreat.fnGaps
