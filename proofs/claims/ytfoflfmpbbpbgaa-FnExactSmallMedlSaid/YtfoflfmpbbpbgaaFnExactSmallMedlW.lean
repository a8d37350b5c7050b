/-
  The walk of laws.FnExactSmallMedl: at every input it returns true and writes nothing that was there.
-/
import Derived.Test.YtfoflfmpbbpbgaaRows
import Derived.Test.YtfoflfmpbbpbgaaPqA
import Derived.Test.YtfoflfmpbbpbgaaPqM
import Derived.Test.YtfoflfmpbbpbgaaPqN
import Derived.Test.YtfoflfmpbbpbgaaPqS
import Derived.Test.YtfoflfmpbbpbgaaPqL
import Derived.WalkKit
import Derived.ProofKit
import Derived.OpenShut
import Derived.ShutString
namespace Go.Proofs.Ytfoflfmpbbpbgaa.fnExactSmallMedl
open Go.ChangeShapes Go.WideShapes Go.ChangeAt Go.RowKit
open Go.ChangeMaps (open_string shut_string)
set_option linter.unusedVariables false      -- a walk need not use every 'w<i>' (that an integer argument fits its kind)


/-! ### STEP 1: THE WALK: the Go text returns true. 'Grown w w'': the world has at most new blocks (Derived/RowKit3.lean). Part the cases AHEAD of 'go_enter' where a test parts the walk; take each callee by a contract of your own. -/
set_option maxRecDepth 100000 in
theorem walk  (w : World) :
    Calls Try.prog 3 #[] w fun e w' => e = .returned (.bool true) ∧ Below w.heap.size w w' := by
  have HCS := Lib.hid (fun W => ssmall_any W)
  have HCI := Lib.hid (fun W => small_any W)
  have HS := Lib.hid (show Small smallMe from szMe_ok (by decide))
  have HEQ := Lib.hid (fun W a b (x : Me) (ha : a.me = x) (hb : b.me = x) (hra : RdMe W a) (hrb : RdMe W b) => eqMe_yes a b W hra hrb (ha.trans hb.symm))
  have HMB := Lib.hid (fun W K4 K7 v4 v7 B (h : WiB B W K4 K7 v4 v7) (hs : Small v7.me) => h.mark hs)
  unfold mvVal at HEQ HMB
  have H0 := Lib.hid (show Hold w w [] from Hold.start)
  go_enter Try.func3, Try.ntmps3
  go_wp2_with fail
  refine (HCS.out _).mono ?_
  rintro e w1 ⟨v4, hv4, rfl, o4, b4⟩
  have HV4 := Lib.hid hv4
  have H4 := Lib.hid (Hold.makeB (T := 26) (v := v4) (H0.out.makeMe_ o4 b4))
  obtain ⟨K4, hK⟩ : ∃ X, X = w1.heap.size := ⟨_, rfl⟩
  rw [← hK] at H4
  clear H0 o4 b4 hv4
  unfold mvVal
  go_upto_region 2 with fail
  rw [← hK]
  clear hK
  generalize w1.alloc (.cells #[.int .i64 v4.id, .slice v4.no v4.n.length v4.nc, .slice v4.mo v4.cs.length v4.mc, .slice v4.eo v4.e.length v4.ec] 26) = w2 at H4 ⊢
  go_wp2_with fail
  refine (HCI.out _).mono ?_
  rintro e w3 ⟨v7, hv7, rfl, o7, b7⟩
  have HV7 := Lib.hid hv7
  have H7 := Lib.hid (show WiB w _ K4 w3.heap.size v4 v7 from ⟨Hold.makeB (T := 26) (v := v7) (H4.out.makeMe_ o7 b7)⟩)
  obtain ⟨K7, hK⟩ : ∃ X, X = w3.heap.size := ⟨_, rfl⟩
  rw [← hK] at H7
  clear H4 o7 b7 hv7
  have HS4 := Lib.hid (show Small v4.me from by rw [HV4.out]; exact HS.out)
  have HS7 := Lib.hid (show Small v7.me from by rw [HV7.out]; exact HS.out)
  unfold mvVal
  go_upto_region 3 with fail
  rw [← hK]
  clear hK
  generalize w3.alloc (.cells #[.int .i64 v7.id, .slice v7.no v7.n.length v7.nc, .slice v7.mo v7.cs.length v7.mc, .slice v7.eo v7.e.length v7.ec] 26) = w4 at H7 ⊢
  obtain ⟨q0, q1, q2, q3⟩ := H7.out.b7.all
  obtain ⟨q4, q5, q6, q7⟩ := H7.out.b4.all
  go_wp2_with fail
  refine (HEQ.out _ _ _ _ HV7.out HV4.out (H7.out.r7 HS7.out) (H7.out.r4 HS4.out)).mono ?_
  rintro e w5 ⟨rfl, b⟩
  have H8 := Lib.hid (H7.out.call b)
  clear q0 q1 q2 q3 q4 q5 q6 q7 H7 b
  obtain ⟨q0, q1, q2, q3⟩ := H8.out.b7.all
  go_wp2_with fail
  refine (HMB.out _ _ _ _ _ _ H8.out HS7.out).mono ?_
  rintro e w6 ⟨rfl, h⟩
  have HHE := Lib.hid (fun W (h : WiC w W K4 K7 v4 v7) => h.held HS7.out)
  unfold mvVal at HHE
  have g7 : ¬ ((markTot v7 : Nat) : Int) < 0 := by omega
  generalize ((markTot v7 : Nat) : Int) = z7 at g7 HHE ⊢
  have hz7 : (z7 != z7) = false := bne_self_eq_false _
  have HC := Lib.hid h
  clear q0 q1 q2 q3 H8 h HMB
  obtain ⟨q0, q1, q2, q3⟩ := HC.out.b7.all
  go_wp2_with fail
  refine (HHE.out _ HC.out).mono ?_
  rintro e w7 ⟨rfl, b⟩
  have HD := Lib.hid (HC.out.call b)
  clear q0 q1 q2 q3 HC b
  go_wp2_with fail
  refine (HCI.out _).mono ?_
  rintro e w8 ⟨v11, hv11, rfl, o11, b11⟩
  have HV11 := Lib.hid hv11
  have hs11 : Small v11.me := by rw [hv11]; exact HS.out
  have HX := Lib.hid (MvAt.new (T := 26) (v := v11) w8)
  have HR := Lib.hid ((o11.rd hs11).below ((Below.refl w8.heap.size w8).alloc (Nat.le_refl _) (.cells #[.int .i64 v11.id, .slice v11.no v11.n.length v11.nc, .slice v11.mo v11.cs.length v11.mc, .slice v11.eo v11.e.length v11.ec] 26)))
  have HD3 := Lib.hid ((HD.out.call b11).call ((Below.refl w8.heap.size w8).alloc (Nat.le_refl _) (.cells #[.int .i64 v11.id, .slice v11.no v11.n.length v11.nc, .slice v11.mo v11.cs.length v11.mc, .slice v11.eo v11.e.length v11.ec] 26)))
  obtain ⟨K11, hK⟩ : ∃ X, X = w8.heap.size := ⟨_, rfl⟩
  rw [← hK] at HX
  clear HD o11 b11 hv11 hs11
  unfold mvVal
  go_upto_region 14 with fail
  rw [← hK]
  clear hK
  generalize w8.alloc (.cells #[.int .i64 v11.id, .slice v11.no v11.n.length v11.nc, .slice v11.mo v11.cs.length v11.mc, .slice v11.eo v11.e.length v11.ec] 26) = w9 at HX HR HD3 ⊢
  obtain ⟨q0, q1, q2, q3⟩ := HX.out.all
  obtain ⟨q4, q5, q6, q7⟩ := HD3.out.b4.all
  go_wp2_with fail
  refine (HEQ.out _ _ _ _ HV11.out HV4.out HR.out (HD3.out.r4 HS4.out)).mono ?_
  rintro e w10 ⟨rfl, b⟩
  have HE := Lib.hid (HD3.out.call b)
  clear q0 q1 q2 q3 q4 q5 q6 q7 HD3 HX HR b
  obtain ⟨q0, q1, q2, q3⟩ := HE.out.b7.all
  go_wp2_with fail
  refine (HHE.out _ HE.out).mono ?_
  rintro e w11 ⟨rfl, b⟩
  clear q0 q1 q2 q3
  go_wp2_with fail
  go_ret
  exact ⟨rfl, below_two HE.out.h.below b⟩
  -- go_enter Try.func3, Try.ntmps3
  -- go_wp2
  -- go_ret
  -- exact ⟨rfl, by repeat (first | exact Grown.refl _ | apply Grown.drew | apply Grown.alloc)⟩


end Go.Proofs.Ytfoflfmpbbpbgaa.fnExactSmallMedl
