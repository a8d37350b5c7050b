/-
  The walk of laws.FnSlotTimes: at every input it returns true and writes nothing that was there.
-/
import Derived.Test.YthihjhidjnadaaaGreatRows
import Derived.Test.YthihjhidjnadaaaGreatP25A
import Derived.Test.YthihjhidjnadaaaGreatP25N
import Derived.Test.YthihjhidjnadaaaGreatP25M
import Derived.Test.YthihjhidjnadaaaGreatP25E
import Derived.Test.YthihjhidjnadaaaGreatP25S
import Derived.Test.YthihjhidjnadaaaGreatP25L
import Derived.Test.YthihjhidjnadaaaGreatP25Z
import Derived.Test.YthihjhidjnadaaaGreatP25I
import Derived.Test.YthihjhidjnadaaaGreatP25T
import Derived.Test.YthihjhidjnadaaaGreatP25C
import Derived.Test.YthihjhidjnadaaaGreatP25D
import Derived.Test.YthihjhidjnadaaaGreatP25K
import Derived.Test.YthihjhidjnadaaaGreatP25G
import Derived.Test.YthihjhidjnadaaaGreatP25O
import Derived.Test.YthihjhidjnadaaaGreatP25U
import Derived.Test.YthihjhidjnadaaaGreatP25X
import Derived.Test.YthihjhidjnadaaaGreatP25V
import Derived.Test.YthihjhidjnadaaaGreatP25Y
import Derived.Test.YthihjhidjnadaaaGreatP25Q
import Derived.WalkKit
import Derived.ProofKit
import Derived.OpenShut
import Derived.ShutString
import Derived.ChangeOld
import Derived.Below
namespace Go.Proofs.YthihjhidjnadaaaGreat.fnSlotTimes
open Go.ChangeShapes Go.WideShapes Go.ChangeAt Go.RowKit
open Go.ChangeMaps (open_string shut_string)
set_option linter.unusedVariables false


/-- WHAT THE WALK IS TOLD OF A SLICE OF INTEGERS THAT CAME IN: it is nil; or it leads to a row of 'cap' cells, the numbers 'zs' (the first 'len' are its elements, the rest its spare room), each fitting its kind. -/
def IsRow (k : IntKind) (w : World) (a : Option Addr) (len cap : Nat) (zs : List Int) : Prop :=
  (a = none ∧ len = 0 ∧ cap = 0 ∧ zs = []) ∨
  ∃ x, a = some x ∧ len ≤ cap ∧ cap ≤ maxLen ∧ zs.length = cap ∧ (∀ i, i < zs.length → w.cell? (x.add i) = some (.int k (zs.getD i 0))) ∧ ∀ n ∈ zs, (Lit.int k n).wf = true

/-! ### STEP 1: THE WALK: the Go text returns true, AND WRITES NOTHING THAT WAS THERE: 'Below w.heap.size w w'' (Derived/Below.lean: '.refl', '.alloc', '.drew', '.setCell' at a new block, '.trans'). Open each 'IsRow' by 'rcases' AHEAD of 'go_enter'; part every test ahead of the walk. -/
set_option linter.unusedSimpArgs false in
set_option maxRecDepth 100000 in
set_option maxHeartbeats 4000000 in
theorem walk (a0 : Option Addr) (len0 cap0 : Nat) (z0 : List Int) (w : World) (w0 : IsRow .u8 w a0 len0 cap0 z0) :
    Calls Tryz.prog 4 #[.slice a0 len0 cap0] w fun e w' => e = .returned (.bool true) ∧ Below w.heap.size w w' := by
  have hr := rdB_of_row w0
  clear w0
  generalize List.take len0 z0 = xs0 at hr
  have HR := Lib.hid hr; clear hr
  by_cases hbig : len0 ≤ 4096
  rotate_left
  · go_enter Tryz.func4, Tryz.ntmps4
    go_wp2_with fail
    refine (big_yes _ _ _ _ hbig).mono ?_
    rintro e w' ⟨rfl, rfl⟩
    go_wp2
    go_ret
    exact ⟨rfl, Below.refl _ _⟩
  go_enter Tryz.func4, Tryz.ntmps4
  go_wp2_with fail
  refine (big_no _ _ _ _ hbig).mono ?_
  rintro e w' ⟨rfl, rfl⟩
  go_wp2_with fail
  refine (drawSlotStart_any _ _ _ xs0 _ HR.out (by omega)).mono ?_
  rintro e w1 ⟨v, t, m, r, s, k, rfl, hrd, -, b1⟩
  obtain ⟨x, ht, hm, hrr, hss, hkk⟩ : ∃ x : Ss, x.t = t ∧ x.m = m ∧ x.r = r ∧ x.s = s ∧ x.k = k := ⟨⟨t, m, r, s, k⟩, rfl, rfl, rfl, rfl, rfl⟩
  subst ht hm hrr hss hkk
  obtain ⟨a, c, hA⟩ : ∃ a c, slotStart v.me x = (a, c) := ⟨_, _, rfl⟩
  obtain ⟨d, c2, hD⟩ : ∃ d c2, descriptorFor v.me x = (d, c2) := ⟨_, _, rfl⟩
  obtain ⟨y, c3, hN⟩ : ∃ y c3, nextStateOf v.me x = (y, c3) := ⟨_, _, rfl⟩
  have HI1 := Lib.hid (fun W (hW : RdMe W v) => (show Calls Tryz.prog 25 #[mvVal v, ssVal x] W fun e w' => e = .returned (.tuple #[.int .i64 a, .int .i64 c]) ∧ Below W.heap.size W w' from by have h := slotStart_any v x W hW; rwa [hA] at h))
  have HJ1 := Lib.hid (fun W (hW : RdMe W v) => (show Calls Tryz.prog 26 #[mvVal v, ssVal x] W fun e w' => e = .returned (.tuple #[.int .i64 a, .int .i64 c]) ∧ Below W.heap.size W w' from by have h := sSlotStart_any v x W hW; rwa [hA] at h))
  have HI2 := Lib.hid (fun W (hW : RdMe W v) => (show Calls Tryz.prog 27 #[mvVal v, ssVal x] W fun e w' => e = .returned (.tuple #[dsVal d, .int .i64 c2]) ∧ Below W.heap.size W w' from by have h := descriptorFor_any v x W hW; rwa [hD] at h))
  have HJ2 := Lib.hid (fun W (hW : RdMe W v) => (show Calls Tryz.prog 28 #[mvVal v, ssVal x] W fun e w' => e = .returned (.tuple #[dsVal d, .int .i64 c2]) ∧ Below W.heap.size W w' from by have h := sDescriptorFor_any v x W hW; rwa [hD] at h))
  have HI3 := Lib.hid (fun W (hW : RdMe W v) => (show Calls Tryz.prog 22 #[mvVal v, ssVal x] W fun e w' => e = .returned (.tuple #[ssVal y, .int .i64 c3]) ∧ Below W.heap.size W w' from by have h := nextStateOf_any v x W hW; rwa [hN] at h))
  have HJ3 := Lib.hid (fun W (hW : RdMe W v) => (show Calls Tryz.prog 29 #[mvVal v, ssVal x] W fun e w' => e = .returned (.tuple #[ssVal y, .int .i64 c3]) ∧ Below W.heap.size W w' from by have h := sNextStateOf_any v x W hW; rwa [hN] at h))
  have HOK := Lib.hid (fun (h0 : c = 0) => slot_times (m := v.me) (x := x) (a := a) (c2 := c2) (d := d) (by rw [hA, h0]) hD)
  have HSA := Lib.hid (fun q W (hW : RdMe W v) => slotAt_any v x.m q W hW)
  have HSE := Lib.hid (fun W (hW : RdMe W v) => sendTimes_any v x.m d.node W hW)
  have HLE := Lib.hid (sendTimes_len v.me x.m d.node)
  have hc1 : (c != c) = false := bne_self_eq_false _
  have ha1 : (a != a) = false := bne_self_eq_false _
  have hc2 : (c2 != c2) = false := bne_self_eq_false _
  have hc3 : (c3 != c3) = false := bne_self_eq_false _
  have HS := Lib.hid (((Sh.start (T := 28) b1).push hrd).call ((Below.refl _ _).alloc (Nat.le_refl _) (.cells #[.int .i64 x.t, .int .i64 x.m, .int .i64 x.r, .int .i64 x.s, .int .i64 x.k] 30)))
  have HX := Lib.hid (StateAt.new (T := 30) (t := x.t) (m := x.m) (r := x.r) (s := x.s) (k := x.k) (w1.alloc (.cells #[.int .i64 v.id, .slice v.no v.n.length v.nc, .slice v.mo v.cs.length v.mc, .slice v.eo v.e.length v.ec] 28)))
  clear hrd b1 hA hD hN
  rw [World.size_alloc] at HX
  unfold mvVal ssVal at HI1 HJ1 HI2 HJ2 HI3 HJ3
  unfold dsVal at HI2 HJ2
  unfold mvVal at HSA HSE ⊢
  go_upto_region 4 with fail
  generalize (w1.alloc (.cells #[.int .i64 v.id, .slice v.no v.n.length v.nc, .slice v.mo v.cs.length v.mc, .slice v.eo v.e.length v.ec] 28)).alloc (.cells #[.int .i64 x.t, .int .i64 x.m, .int .i64 x.r, .int .i64 x.s, .int .i64 x.k] 30) = wx at HS HX ⊢
  generalize w1.heap.size = B at HS HX ⊢
  obtain ⟨z0, z1, z2, z3⟩ := (HS.out.b 0 rfl).all
  have x0 := HX.out.c0; have x1 := HX.out.c1; have x2 := HX.out.c2; have x3 := HX.out.c3; have x4 := HX.out.c4
  go_wp2_with fail
  refine (HI1.out _ (HS.out.r 0 rfl)).mono ?_
  rintro e wc0 ⟨rfl, b⟩
  have HT := Lib.hid (HS.out.call (b))
  clear HS
  have HS := HT
  clear HT
  have HT := Lib.hid (StateAt.below HX.out (b) (StateAt.lt HX.out))
  clear HX
  have HX := HT
  clear HT
  clear b HI1
  clear z0 z1 z2 z3 x0 x1 x2 x3 x4
  obtain ⟨z0, z1, z2, z3⟩ := (HS.out.b 0 rfl).all
  have x0 := HX.out.c0; have x1 := HX.out.c1; have x2 := HX.out.c2; have x3 := HX.out.c3; have x4 := HX.out.c4
  go_wp2_with fail
  refine (HJ1.out _ (HS.out.r 0 rfl)).mono ?_
  rintro e wc1 ⟨rfl, b⟩
  have HT := Lib.hid (HS.out.call (b))
  clear HS
  have HS := HT
  clear HT
  have HT := Lib.hid (StateAt.below HX.out (b) (StateAt.lt HX.out))
  clear HX
  have HX := HT
  clear HT
  clear b HJ1
  clear z0 z1 z2 z3 x0 x1 x2 x3 x4
  obtain ⟨z0, z1, z2, z3⟩ := (HS.out.b 0 rfl).all
  have x0 := HX.out.c0; have x1 := HX.out.c1; have x2 := HX.out.c2; have x3 := HX.out.c3; have x4 := HX.out.c4
  go_wp2_with fail
  refine (HI2.out _ (HS.out.r 0 rfl)).mono ?_
  rintro e wc2 ⟨rfl, b⟩
  have HT := Lib.hid (HS.out.call (b))
  clear HS
  have HS := HT
  clear HT
  have HT := Lib.hid (StateAt.below HX.out (b) (StateAt.lt HX.out))
  clear HX
  have HX := HT
  clear HT
  clear b HI2
  clear z0 z1 z2 z3 x0 x1 x2 x3 x4
  have HT := Lib.hid (HS.out.call ((Below.refl wc2.heap.size wc2).alloc (Nat.le_refl _) (.cells #[.int .i64 d.node, .int .i64 d.kind, .int .i64 d.size, .int .i64 d.dur, .bool d.chg] 44)))
  clear HS
  have HS := HT
  clear HT
  have HT := Lib.hid (StateAt.below HX.out ((Below.refl wc2.heap.size wc2).alloc (Nat.le_refl _) (.cells #[.int .i64 d.node, .int .i64 d.kind, .int .i64 d.size, .int .i64 d.dur, .bool d.chg] 44)) (StateAt.lt HX.out))
  clear HX
  have HX := HT
  clear HT
  have HE2 := Lib.hid (DescAt.new (T := 44) (n := d.node) (a := d.kind) (z := d.size) (u := d.dur) (c := d.chg) wc2)
  go_upto_region 7 with fail
  generalize wc2.alloc (.cells #[.int .i64 d.node, .int .i64 d.kind, .int .i64 d.size, .int .i64 d.dur, .bool d.chg] 44) = wd2 at HS HX HE2 ⊢
  generalize wc2.heap.size = E2 at HE2 ⊢
  obtain ⟨z0, z1, z2, z3⟩ := (HS.out.b 0 rfl).all
  have x0 := HX.out.c0; have x1 := HX.out.c1; have x2 := HX.out.c2; have x3 := HX.out.c3; have x4 := HX.out.c4
  go_wp2_with fail
  refine (HJ2.out _ (HS.out.r 0 rfl)).mono ?_
  rintro e wc3 ⟨rfl, b⟩
  have HT := Lib.hid (HS.out.call (b))
  clear HS
  have HS := HT
  clear HT
  have HT := Lib.hid (StateAt.below HX.out (b) (StateAt.lt HX.out))
  clear HX
  have HX := HT
  clear HT
  have HT := Lib.hid (DescAt.below HE2.out (b) (DescAt.lt HE2.out))
  clear HE2
  have HE2 := HT
  clear HT
  clear b HJ2
  clear z0 z1 z2 z3 x0 x1 x2 x3 x4
  have HT := Lib.hid (HS.out.call ((Below.refl wc3.heap.size wc3).alloc (Nat.le_refl _) (.cells #[.int .i64 d.node, .int .i64 d.kind, .int .i64 d.size, .int .i64 d.dur, .bool d.chg] 44)))
  clear HS
  have HS := HT
  clear HT
  have HT := Lib.hid (StateAt.below HX.out ((Below.refl wc3.heap.size wc3).alloc (Nat.le_refl _) (.cells #[.int .i64 d.node, .int .i64 d.kind, .int .i64 d.size, .int .i64 d.dur, .bool d.chg] 44)) (StateAt.lt HX.out))
  clear HX
  have HX := HT
  clear HT
  have HT := Lib.hid (DescAt.below HE2.out ((Below.refl wc3.heap.size wc3).alloc (Nat.le_refl _) (.cells #[.int .i64 d.node, .int .i64 d.kind, .int .i64 d.size, .int .i64 d.dur, .bool d.chg] 44)) (DescAt.lt HE2.out))
  clear HE2
  have HE2 := HT
  clear HT
  have HE3 := Lib.hid (DescAt.new (T := 44) (n := d.node) (a := d.kind) (z := d.size) (u := d.dur) (c := d.chg) wc3)
  go_upto_region 8 with fail
  generalize wc3.alloc (.cells #[.int .i64 d.node, .int .i64 d.kind, .int .i64 d.size, .int .i64 d.dur, .bool d.chg] 44) = wd3 at HS HX HE2 HE3 ⊢
  generalize wc3.heap.size = E3 at HE3 ⊢
  obtain ⟨z0, z1, z2, z3⟩ := (HS.out.b 0 rfl).all
  have x0 := HX.out.c0; have x1 := HX.out.c1; have x2 := HX.out.c2; have x3 := HX.out.c3; have x4 := HX.out.c4
  go_wp2_with fail
  refine (HI3.out _ (HS.out.r 0 rfl)).mono ?_
  rintro e wc4 ⟨rfl, b⟩
  have HT := Lib.hid (HS.out.call (b))
  clear HS
  have HS := HT
  clear HT
  have HT := Lib.hid (StateAt.below HX.out (b) (StateAt.lt HX.out))
  clear HX
  have HX := HT
  clear HT
  have HT := Lib.hid (DescAt.below HE2.out (b) (DescAt.lt HE2.out))
  clear HE2
  have HE2 := HT
  clear HT
  have HT := Lib.hid (DescAt.below HE3.out (b) (DescAt.lt HE3.out))
  clear HE3
  have HE3 := HT
  clear HT
  clear b HI3
  clear z0 z1 z2 z3 x0 x1 x2 x3 x4
  have HT := Lib.hid (HS.out.call ((Below.refl wc4.heap.size wc4).alloc (Nat.le_refl _) (.cells #[.int .i64 y.t, .int .i64 y.m, .int .i64 y.r, .int .i64 y.s, .int .i64 y.k] 30)))
  clear HS
  have HS := HT
  clear HT
  have HT := Lib.hid (StateAt.below HX.out ((Below.refl wc4.heap.size wc4).alloc (Nat.le_refl _) (.cells #[.int .i64 y.t, .int .i64 y.m, .int .i64 y.r, .int .i64 y.s, .int .i64 y.k] 30)) (StateAt.lt HX.out))
  clear HX
  have HX := HT
  clear HT
  have HT := Lib.hid (DescAt.below HE2.out ((Below.refl wc4.heap.size wc4).alloc (Nat.le_refl _) (.cells #[.int .i64 y.t, .int .i64 y.m, .int .i64 y.r, .int .i64 y.s, .int .i64 y.k] 30)) (DescAt.lt HE2.out))
  clear HE2
  have HE2 := HT
  clear HT
  have HT := Lib.hid (DescAt.below HE3.out ((Below.refl wc4.heap.size wc4).alloc (Nat.le_refl _) (.cells #[.int .i64 y.t, .int .i64 y.m, .int .i64 y.r, .int .i64 y.s, .int .i64 y.k] 30)) (DescAt.lt HE3.out))
  clear HE3
  have HE3 := HT
  clear HT
  have HE4 := Lib.hid (StateAt.new (T := 30) (t := y.t) (m := y.m) (r := y.r) (s := y.s) (k := y.k) wc4)
  go_upto_region 9 with fail
  generalize wc4.alloc (.cells #[.int .i64 y.t, .int .i64 y.m, .int .i64 y.r, .int .i64 y.s, .int .i64 y.k] 30) = wd4 at HS HX HE2 HE3 HE4 ⊢
  generalize wc4.heap.size = E4 at HE4 ⊢
  obtain ⟨z0, z1, z2, z3⟩ := (HS.out.b 0 rfl).all
  have x0 := HX.out.c0; have x1 := HX.out.c1; have x2 := HX.out.c2; have x3 := HX.out.c3; have x4 := HX.out.c4
  go_wp2_with fail
  refine (HJ3.out _ (HS.out.r 0 rfl)).mono ?_
  rintro e wc5 ⟨rfl, b⟩
  have HT := Lib.hid (HS.out.call (b))
  clear HS
  have HS := HT
  clear HT
  have HT := Lib.hid (StateAt.below HX.out (b) (StateAt.lt HX.out))
  clear HX
  have HX := HT
  clear HT
  have HT := Lib.hid (DescAt.below HE2.out (b) (DescAt.lt HE2.out))
  clear HE2
  have HE2 := HT
  clear HT
  have HT := Lib.hid (DescAt.below HE3.out (b) (DescAt.lt HE3.out))
  clear HE3
  have HE3 := HT
  clear HT
  have HT := Lib.hid (StateAt.below HE4.out (b) (StateAt.lt HE4.out))
  clear HE4
  have HE4 := HT
  clear HT
  clear b HJ3
  clear z0 z1 z2 z3 x0 x1 x2 x3 x4
  have HT := Lib.hid (HS.out.call ((Below.refl wc5.heap.size wc5).alloc (Nat.le_refl _) (.cells #[.int .i64 y.t, .int .i64 y.m, .int .i64 y.r, .int .i64 y.s, .int .i64 y.k] 30)))
  clear HS
  have HS := HT
  clear HT
  have HT := Lib.hid (StateAt.below HX.out ((Below.refl wc5.heap.size wc5).alloc (Nat.le_refl _) (.cells #[.int .i64 y.t, .int .i64 y.m, .int .i64 y.r, .int .i64 y.s, .int .i64 y.k] 30)) (StateAt.lt HX.out))
  clear HX
  have HX := HT
  clear HT
  have HT := Lib.hid (DescAt.below HE2.out ((Below.refl wc5.heap.size wc5).alloc (Nat.le_refl _) (.cells #[.int .i64 y.t, .int .i64 y.m, .int .i64 y.r, .int .i64 y.s, .int .i64 y.k] 30)) (DescAt.lt HE2.out))
  clear HE2
  have HE2 := HT
  clear HT
  have HT := Lib.hid (DescAt.below HE3.out ((Below.refl wc5.heap.size wc5).alloc (Nat.le_refl _) (.cells #[.int .i64 y.t, .int .i64 y.m, .int .i64 y.r, .int .i64 y.s, .int .i64 y.k] 30)) (DescAt.lt HE3.out))
  clear HE3
  have HE3 := HT
  clear HT
  have HT := Lib.hid (StateAt.below HE4.out ((Below.refl wc5.heap.size wc5).alloc (Nat.le_refl _) (.cells #[.int .i64 y.t, .int .i64 y.m, .int .i64 y.r, .int .i64 y.s, .int .i64 y.k] 30)) (StateAt.lt HE4.out))
  clear HE4
  have HE4 := HT
  clear HT
  have HE5 := Lib.hid (StateAt.new (T := 30) (t := y.t) (m := y.m) (r := y.r) (s := y.s) (k := y.k) wc5)
  go_upto_region 10 with fail
  generalize wc5.alloc (.cells #[.int .i64 y.t, .int .i64 y.m, .int .i64 y.r, .int .i64 y.s, .int .i64 y.k] 30) = wd5 at HS HX HE2 HE3 HE4 HE5 ⊢
  generalize wc5.heap.size = E5 at HE5 ⊢
  have d0 := HE2.out.c0; have d1 := HE2.out.c1; have d2 := HE2.out.c2; have d3 := HE2.out.c3; have d4 := HE2.out.c4
  have f0 := HE3.out.c0; have f1 := HE3.out.c1; have f2 := HE3.out.c2; have f3 := HE3.out.c3; have f4 := HE3.out.c4
  have y0 := HE4.out.c0; have y1 := HE4.out.c1; have y2 := HE4.out.c2; have y3 := HE4.out.c3; have y4 := HE4.out.c4
  have u0 := HE5.out.c0; have u1 := HE5.out.c1; have u2 := HE5.out.c2; have u3 := HE5.out.c3; have u4 := HE5.out.c4
  have ne1 := fun w => desc_neq_self d.node d.kind d.size d.dur d.chg w
  have ne2 := fun w => state_neq_self y.t y.m y.r y.s y.k w
  by_cases hc : c = 0
  rotate_left
  · have hcb : (c != 0) = true := by simp [hc]
    clear HOK hc HSA HSE HLE
    go_wp2_with fail
    go_ret
    exact ⟨rfl, HS.out.below⟩
  have hcb : (c != 0) = false := by simp [hc]
  obtain ⟨-, hd1, hd2, ha0, ha2, hat, l, hse, hal⟩ := HOK.out hc
  subst hc
  have HLN := Lib.hid (show l.length ≤ 1048576 from by have h := HLE.out; rwa [hse] at h)
  rw [hse] at HSE
  have HAT := Lib.hid hat
  have HAL := Lib.hid hal
  clear HOK HLE hat hse hal
  go_upto_region 14 with fail
  clear d0 d1 d2 d4 f0 f1 f2 f3 f4 y0 y1 y2 y3 y4 u0 u1 u2 u3 u4 ne1 ne2 hc1 ha1 hc2 hc3 hcb d3
  have HT := Lib.hid (HS.out.call ((Below.refl wd5.heap.size wd5).drew))
  clear HS
  have HS := HT
  clear HT
  have HT := Lib.hid (StateAt.below HX.out ((Below.refl wd5.heap.size wd5).drew) (StateAt.lt HX.out))
  clear HX
  have HX := HT
  clear HT
  have HT := Lib.hid (DescAt.below HE2.out ((Below.refl wd5.heap.size wd5).drew) (DescAt.lt HE2.out))
  clear HE2
  have HE2 := HT
  clear HT
  have HT := Lib.hid (DescAt.below HE3.out ((Below.refl wd5.heap.size wd5).drew) (DescAt.lt HE3.out))
  clear HE3
  have HE3 := HT
  clear HT
  have HT := Lib.hid (StateAt.below HE4.out ((Below.refl wd5.heap.size wd5).drew) (StateAt.lt HE4.out))
  clear HE4
  have HE4 := HT
  clear HT
  have HT := Lib.hid (StateAt.below HE5.out ((Below.refl wd5.heap.size wd5).drew) (StateAt.lt HE5.out))
  clear HE5
  have HE5 := HT
  clear HT
  refine wp_region_held_drew (S := fun w' => w'.cell? ⟨E3, 3, none⟩ = some (.int .i64 d.dur)) (by kernel_rfl) (HE3.out.c3) (fun hHeld => ?_)
  generalize wd5.drew = we at HS HX HE2 HE3 HE4 HE5 hHeld ⊢
  refine wpAnyH_take (i := 0) (v := ?_) rfl (by kernel_rfl) (by kernel_rfl) (by kernel_rfl) (fun _ _ _ h => h) (Or.inl ⟨by rfl, ?_⟩) (by assumption) ?_
  rotate_left
  · (intro w hSw; (try dsimp only at hSw); go_simp; (try with_reducible rfl))
  try simp only [List.getElem_toArray, List.getElem_cons_succ, List.getElem_cons_zero, Act.put, List.setIfInBounds_toArray, List.set_cons_zero, List.set_cons_succ]
  refine wpAnyH_take (i := 1) (v := ?_) rfl (by kernel_rfl) (by kernel_rfl) (by kernel_rfl) (fun _ _ _ h => h) (Or.inl ⟨by rfl, ?_⟩) (by assumption) ?_
  rotate_left
  · (intro w hSw; (try dsimp only at hSw); go_simp; (try with_reducible rfl))
  try simp only [List.getElem_toArray, List.getElem_cons_succ, List.getElem_cons_zero, Act.put, List.setIfInBounds_toArray, List.set_cons_zero, List.set_cons_succ]
  refine wpAnyH_take (i := 3) (v := ?_) rfl (by kernel_rfl) (by kernel_rfl) (by kernel_rfl) (fun _ _ _ h => h) (Or.inl ⟨by rfl, ?_⟩) (by assumption) ?_
  rotate_left
  · (intro w hSw; (try dsimp only at hSw); go_simp; (try with_reducible rfl))
  try simp only [List.getElem_toArray, List.getElem_cons_succ, List.getElem_cons_zero, Act.put, List.setIfInBounds_toArray, List.set_cons_zero, List.set_cons_succ]
  refine wpAnyH_take (i := 4) (v := ?_) rfl (by kernel_rfl) (by kernel_rfl) (by kernel_rfl) (fun _ _ _ h => h) (Or.inl ⟨by rfl, ?_⟩) (by assumption) ?_
  rotate_left
  · (intro w hSw; (try dsimp only at hSw); go_simp; (try with_reducible rfl))
  try simp only [List.getElem_toArray, List.getElem_cons_succ, List.getElem_cons_zero, Act.put, List.setIfInBounds_toArray, List.set_cons_zero, List.set_cons_succ]
  refine wpAnyH_ready (rs := [2]) (by kernel_rfl) (by simp) (AllReadyH.cons rfl (fun K hK => ?_) AllReadyH.nil)
  go_simp
  refine (roll_any _ _ _ xs0 _ _ (rdB_later HR.out HS.out.below) (by omega)).mono ?_
  rintro e wr1 ⟨dp, rfl, hdp, hdi, b1⟩
  have hq := (DescAt.below HE3.out b1 (DescAt.lt HE3.out)).c3
  go_wp2_with fail
  refine hK.out _ _ ?_ (fun hHeld => ?_)
  · exact hq
  clear hK K hq
  try simp only [List.getElem_toArray, List.getElem_cons_succ, List.getElem_cons_zero, Act.put, List.setIfInBounds_toArray, List.set_cons_zero, List.set_cons_succ]
  refine wpAnyH_ready (rs := [5]) (by kernel_rfl) (by simp) (AllReadyH.cons rfl (fun K hK => ?_) AllReadyH.nil)
  go_simp
  refine (below_any _ _ _ hdi hd1 (by omega)).mono ?_
  rintro e wr2 ⟨z, rfl, z0, z1, -, g2⟩
  have hb := b1.grown g2 b1.size (fun k hk => by cases hk; omega)
  have hq := (DescAt.below HE3.out hb (DescAt.lt HE3.out)).c3
  have hw : IntKind.i64.wrap (a + z) = a + z := by rw [IntKind.wrap_i64]; omega
  go_wp2_with fail
  refine hK.out _ _ ?_ (fun hHeld => ?_)
  · exact hq
  clear hK K hq hdi g2 b1
  try simp only [List.getElem_toArray, List.getElem_cons_succ, List.getElem_cons_zero, Act.put, List.setIfInBounds_toArray, List.set_cons_zero, List.set_cons_succ]
  refine wpAnyH_take (i := 6) (v := ?_) rfl (by kernel_rfl) (by kernel_rfl) (by kernel_rfl) (fun _ _ _ h => h) (Or.inl ⟨by rfl, ?_⟩) (by assumption) ?_
  rotate_left
  · (intro w hSw; (try dsimp only at hSw); go_simp; (try with_reducible rfl))
  try simp only [List.getElem_toArray, List.getElem_cons_succ, List.getElem_cons_zero, Act.put, List.setIfInBounds_toArray, List.set_cons_zero, List.set_cons_succ]
  refine wpAnyH_take (i := 7) (v := ?_) rfl (by kernel_rfl) (by kernel_rfl) (by kernel_rfl) (fun _ _ _ h => h) (Or.inl ⟨by rfl, ?_⟩) (by assumption) ?_
  rotate_left
  · (intro w hSw; (try dsimp only at hSw); go_simp; (try with_reducible rfl))
  try simp only [List.getElem_toArray, List.getElem_cons_succ, List.getElem_cons_zero, Act.put, List.setIfInBounds_toArray, List.set_cons_zero, List.set_cons_succ]
  refine wpAnyH_done (by kernel_rfl) ?_ _
  clear hHeld
  have HT := Lib.hid (HS.out.call (hb))
  clear HS
  have HS := HT
  clear HT
  have HT := Lib.hid (StateAt.below HX.out (hb) (StateAt.lt HX.out))
  clear HX
  have HX := HT
  clear HT
  have HT := Lib.hid (DescAt.below HE2.out (hb) (DescAt.lt HE2.out))
  clear HE2
  have HE2 := HT
  clear HT
  have HT := Lib.hid (DescAt.below HE3.out (hb) (DescAt.lt HE3.out))
  clear HE3
  have HE3 := HT
  clear HT
  have HT := Lib.hid (StateAt.below HE4.out (hb) (StateAt.lt HE4.out))
  clear HE4
  have HE4 := HT
  clear HT
  have HT := Lib.hid (StateAt.below HE5.out (hb) (StateAt.lt HE5.out))
  clear HE5
  have HE5 := HT
  clear HT
  clear hb hdp
  have HSB := Lib.hid (fun W (hW : RdMe W v) => (show Calls Tryz.prog 32 #[mvVal v, .int .i64 x.m, .int .i64 (a + z)] W fun e w' => e = .returned (.tuple #[.int .i64 x.r, .int .i64 x.s, .int .i64 0]) ∧ Below W.heap.size W w' from by have h := HSA.out (a + z) W hW; rw [HAT.out z z0 z1] at h; unfold mvVal; exact h))
  unfold mvVal at HSB
  clear HSA HAT z0 z1
  obtain ⟨z0, z1, z2, z3⟩ := (HS.out.b 0 rfl).all
  have x0 := HX.out.c0; have x1 := HX.out.c1; have x2 := HX.out.c2; have x3 := HX.out.c3; have x4 := HX.out.c4
  go_wp2_with fail
  refine (HSB.out _ (HS.out.r 0 rfl)).mono ?_
  rintro e wt1 ⟨rfl, b⟩
  have HT := Lib.hid (HS.out.call (b))
  clear HS
  have HS := HT
  clear HT
  have HT := Lib.hid (StateAt.below HX.out (b) (StateAt.lt HX.out))
  clear HX
  have HX := HT
  clear HT
  have HT := Lib.hid (DescAt.below HE2.out (b) (DescAt.lt HE2.out))
  clear HE2
  have HE2 := HT
  clear HT
  have HT := Lib.hid (DescAt.below HE3.out (b) (DescAt.lt HE3.out))
  clear HE3
  have HE3 := HT
  clear HT
  have HT := Lib.hid (StateAt.below HE4.out (b) (StateAt.lt HE4.out))
  clear HE4
  have HE4 := HT
  clear HT
  have HT := Lib.hid (StateAt.below HE5.out (b) (StateAt.lt HE5.out))
  clear HE5
  have HE5 := HT
  clear HT
  clear b HSB
  clear z0 z1 z2 z3 x0 x1 x2 x3 x4
  obtain ⟨z0, z1, z2, z3⟩ := (HS.out.b 0 rfl).all
  have x0 := HX.out.c0; have x1 := HX.out.c1; have x2 := HX.out.c2; have x3 := HX.out.c3; have x4 := HX.out.c4
  have d0 := HE2.out.c0
  go_wp2_with fail
  refine (HSE.out _ (HS.out.r 0 rfl)).mono ?_
  rintro e wt2 m2
  obtain ⟨lp, lc, rfl, -, rl, b⟩ := m2.get
  have HRL := Lib.hid rl
  have HT := Lib.hid (HS.out.call (b))
  clear HS
  have HS := HT
  clear HT
  have HT := Lib.hid (StateAt.below HX.out (b) (StateAt.lt HX.out))
  clear HX
  have HX := HT
  clear HT
  have HT := Lib.hid (DescAt.below HE2.out (b) (DescAt.lt HE2.out))
  clear HE2
  have HE2 := HT
  clear HT
  have HT := Lib.hid (DescAt.below HE3.out (b) (DescAt.lt HE3.out))
  clear HE3
  have HE3 := HT
  clear HT
  have HT := Lib.hid (StateAt.below HE4.out (b) (StateAt.lt HE4.out))
  clear HE4
  have HE4 := HT
  clear HT
  have HT := Lib.hid (StateAt.below HE5.out (b) (StateAt.lt HE5.out))
  clear HE5
  have HE5 := HT
  clear HT
  clear b HSE m2 rl d0
  clear z0 z1 z2 z3 x0 x1 x2 x3 x4
  obtain ⟨z0, z1, z2, z3⟩ := (HS.out.b 0 rfl).all
  have x0 := HX.out.c0; have x1 := HX.out.c1; have x2 := HX.out.c2; have x3 := HX.out.c3; have x4 := HX.out.c4
  have hrr : (x.r == x.r) = true := beq_self_eq_true _
  have hss : (x.s == x.s) = true := beq_self_eq_true _
  go_wp2_with fail
  refine (hasInt_any _ _ _ _ a _ HRL.out (by have := HLN.out; omega)).mono ?_
  rintro e wt3 ⟨rfl, rfl⟩
  have hal : decide (a ∈ l) = true := by have := HAL.out; simp [this]
  rw [hal]
  go_wp2_with fail
  go_ret
  exact ⟨rfl, HS.out.below⟩


end Go.Proofs.YthihjhidjnadaaaGreat.fnSlotTimes
