/-
  The walk of laws.FnCyclesOfStates: at every input it returns true and writes nothing that was there.
-/
import Derived.Test.YthihjhidjnadaaaGreatRows
import Derived.Test.YthihjhidjnadaaaGreatP27A
import Derived.Test.YthihjhidjnadaaaGreatP27N
import Derived.Test.YthihjhidjnadaaaGreatP27S
import Derived.Test.YthihjhidjnadaaaGreatP27M
import Derived.Test.YthihjhidjnadaaaGreatP27Z
import Derived.Test.YthihjhidjnadaaaGreatP27I
import Derived.Test.YthihjhidjnadaaaGreatP27U
import Derived.Test.YthihjhidjnadaaaGreatP27T
import Derived.Test.YthihjhidjnadaaaGreatP27X
import Derived.Test.YthihjhidjnadaaaGreatP27V
import Derived.Test.YthihjhidjnadaaaGreatP27L
import Derived.Test.YthihjhidjnadaaaGreatP27E
import Derived.Test.YthihjhidjnadaaaGreatP27C
import Derived.Test.YthihjhidjnadaaaGreatP27D
import Derived.Test.YthihjhidjnadaaaGreatP27G
import Derived.Test.YthihjhidjnadaaaGreatP27W
import Derived.Test.YthihjhidjnadaaaGreatP27O
import Derived.Test.YthihjhidjnadaaaGreatP27K
import Derived.Test.YthihjhidjnadaaaGreatP27Q
import Derived.WalkKit
import Derived.ProofKit
import Derived.OpenShut
import Derived.ShutString
import Derived.ChangeOld
import Derived.Below
namespace Go.Proofs.YthihjhidjnadaaaGreat.fnCyclesOfStates
open Go.ChangeShapes Go.WideShapes Go.ChangeAt Go.RowKit
open Go.ChangeMaps (open_string shut_string)
set_option linter.unusedVariables false


/-- WHAT THE WALK IS TOLD OF A SLICE OF INTEGERS THAT CAME IN: it is nil; or it leads to a row of 'cap' cells, the numbers 'zs' (the first 'len' are its elements, the rest its spare room), each fitting its kind. -/
def IsRow (k : IntKind) (w : World) (a : Option Addr) (len cap : Nat) (zs : List Int) : Prop :=
  (a = none ∧ len = 0 ∧ cap = 0 ∧ zs = []) ∨
  ∃ x, a = some x ∧ len ≤ cap ∧ cap ≤ maxLen ∧ zs.length = cap ∧ (∀ i, i < zs.length → w.cell? (x.add i) = some (.int k (zs.getD i 0))) ∧ ∀ n ∈ zs, (Lit.int k n).wf = true

/-! ### STEP 1: THE WALK: the Go text returns true, AND WRITES NOTHING THAT WAS THERE: 'Below w.heap.size w w'' (Derived/Below.lean: '.refl', '.alloc', '.drew', '.setCell' at a new block, '.trans'). Open each 'IsRow' by 'rcases' AHEAD of 'go_enter'; part every test ahead of the walk. -/
set_option linter.unusedSimpArgs false in
set_option linter.unusedVariables false in
set_option maxRecDepth 100000 in
set_option maxHeartbeats 4000000 in
theorem walk (a0 : Option Addr) (len0 cap0 : Nat) (z0 : List Int) (w : World) (w0 : IsRow .u8 w a0 len0 cap0 z0) :
    Calls Tryz.prog 3 #[.slice a0 len0 cap0] w fun e w' => e = .returned (.bool true) ∧ Below w.heap.size w w' := by
  have hr := rdB_of_row w0
  clear w0
  generalize List.take len0 z0 = xs0 at hr
  have HR := Lib.hid hr; clear hr
  by_cases hbig : len0 ≤ 4096
  rotate_left
  · go_enter Tryz.func3, Tryz.ntmps3
    go_wp2_with fail
    refine (big_yes _ _ _ _ hbig).mono ?_
    rintro e w' ⟨rfl, rfl⟩
    go_wp2
    go_ret
    exact ⟨rfl, Below.refl _ _⟩
  go_enter Tryz.func3, Tryz.ntmps3
  go_wp2_with fail
  refine (big_no _ _ _ _ hbig).mono ?_
  rintro e w' ⟨rfl, rfl⟩
  go_wp2_with fail
  refine (drawStatesOfCycle_any _ _ _ xs0 _ HR.out (by omega)).mono ?_
  rintro e w1 ⟨v, t, m, r, s, k, rfl, hrd, -, b1⟩
  obtain ⟨x, ht, hm, hrr, hss, hkk⟩ : ∃ x : Ss, x.t = t ∧ x.m = m ∧ x.r = r ∧ x.s = s ∧ x.k = k := ⟨⟨t, m, r, s, k⟩, rfl, rfl, rfl, rfl, rfl⟩
  subst ht hm hrr hss hkk
  obtain ⟨l, c, hA⟩ : ∃ l c, statesOfCycle v.me x = (l, c) := ⟨_, _, rfl⟩
  have hcc : codeLu v.me x = c := by rw [← statesOfCycle_code, hA]
  have hll : l.length ≤ 1048576 := by have h := statesOfCycle_len v.me x; rwa [hA] at h
  have HI := Lib.hid (fun W (hW : RdMe W v) => (show Calls Tryz.prog 18 #[mvVal v, ssVal x] W (MakesSs2 30 W l c) from by have h := statesOfCycle_any v x W hW; rwa [hA] at h))
  have HJ := Lib.hid (fun W (hW : RdMe W v) => (show Calls Tryz.prog 19 #[mvVal v, ssVal x] W (MakesSs2 30 W l c) from by have h := sStatesOfCycle_any v x W hW; rwa [hA] at h))
  have HBT := Lib.hid (fun W (hW : RdMe W v) => (show Calls Tryz.prog 20 #[mvVal v, ssVal x] W fun e w' => e = .returned (.bool (c == 0)) ∧ Below W.heap.size W w' from by have h := belongsTo_any v x W hW; rwa [belongsTo_code, hcc] at h))
  have HOK := Lib.hid (fun (h0 : c = 0) => states_law (m := v.me) (x := x) (l := l) (by rw [hA, h0]))
  have HCS := Lib.hid (fun W (hW : RdMe W v) => (show Calls Tryz.prog 21 #[.slice v.mo v.cs.length v.mc, .int .i64 x.m] W fun e w' => e = .returned (.tuple #[.int .i64 (cycleSlots v.me.modes x.m).1, .int .i64 (cycleSlots v.me.modes x.m).2]) ∧ Below W.heap.size W w' from cycleSlotsI_any v.mo v.cs.length v.mc v.cs x.m W hW.rm hW.ml hW.ms))
  have HCT := Lib.hid (fun W (hW : RdMe W v) => cycleTime_any v x.m W hW)
  have HNX := Lib.hid (fun q W (hW : RdMe W v) => nextStateOf_any v q W hW)
  have hc1 : (c != c) = false := bne_self_eq_false _
  have hlb : ((l.length : Int) != (l.length : Int)) = false := bne_self_eq_false _
  have hbb : ((c == 0) != (c == 0)) = false := bne_self_eq_false _
  have HS := Lib.hid (((Sh.start (T := 28) b1).push hrd).call ((Below.refl _ _).alloc (Nat.le_refl _) (.cells #[.int .i64 x.t, .int .i64 x.m, .int .i64 x.r, .int .i64 x.s, .int .i64 x.k] 30)))
  have HX := Lib.hid (StateAt.new (T := 30) (t := x.t) (m := x.m) (r := x.r) (s := x.s) (k := x.k) (w1.alloc (.cells #[.int .i64 v.id, .slice v.no v.n.length v.nc, .slice v.mo v.cs.length v.mc, .slice v.eo v.e.length v.ec] 28)))
  clear hrd b1 hA hcc HR
  rw [World.size_alloc] at HX
  unfold mvVal ssVal at HI HJ HBT HNX
  unfold mvVal at HCT ⊢
  go_upto_region 4 with fail
  generalize (w1.alloc (.cells #[.int .i64 v.id, .slice v.no v.n.length v.nc, .slice v.mo v.cs.length v.mc, .slice v.eo v.e.length v.ec] 28)).alloc (.cells #[.int .i64 x.t, .int .i64 x.m, .int .i64 x.r, .int .i64 x.s, .int .i64 x.k] 30) = wx at HS HX ⊢
  generalize w1.heap.size = B at HS HX ⊢
  obtain ⟨z0, z1, z2, z3⟩ := (HS.out.b 0 rfl).all
  have x0 := HX.out.c0; have x1 := HX.out.c1; have x2 := HX.out.c2; have x3 := HX.out.c3; have x4 := HX.out.c4
  go_wp2_with fail
  refine (HI.out _ (HS.out.r 0 rfl)).mono ?_
  rintro e wc0 mm
  obtain ⟨p0, k0, rfl, -, rl, b⟩ := mm.get
  have HT := Lib.hid (HS.out.call (b))
  clear HS
  have HS := HT
  clear HT
  have HT := Lib.hid (StateAt.below HX.out (b) (StateAt.lt HX.out))
  clear HX
  have HX := HT
  clear HT
  have HL0 := Lib.hid rl
  clear b mm rl HI
  clear z0 z1 z2 z3 x0 x1 x2 x3 x4
  obtain ⟨z0, z1, z2, z3⟩ := (HS.out.b 0 rfl).all
  have x0 := HX.out.c0; have x1 := HX.out.c1; have x2 := HX.out.c2; have x3 := HX.out.c3; have x4 := HX.out.c4
  go_wp2_with fail
  refine (HJ.out _ (HS.out.r 0 rfl)).mono ?_
  rintro e wc1 mm
  obtain ⟨p1, k1, rfl, -, rl, b⟩ := mm.get
  have HT := Lib.hid (HS.out.call (b))
  clear HS
  have HS := HT
  clear HT
  have HT := Lib.hid (StateAt.below HX.out (b) (StateAt.lt HX.out))
  clear HX
  have HX := HT
  clear HT
  have HT := Lib.hid (HL0.out.below (b))
  clear HL0
  have HL0 := HT
  clear HT
  have HL1 := Lib.hid rl
  clear b mm rl HJ
  clear z0 z1 z2 z3 x0 x1 x2 x3 x4
  obtain ⟨z0, z1, z2, z3⟩ := (HS.out.b 0 rfl).all
  have x0 := HX.out.c0; have x1 := HX.out.c1; have x2 := HX.out.c2; have x3 := HX.out.c3; have x4 := HX.out.c4
  go_wp2_with fail
  refine (HBT.out _ (HS.out.r 0 rfl)).mono ?_
  rintro e wc2 ⟨rfl, b⟩
  have HT := Lib.hid (HS.out.call (b))
  clear HS
  have HS := HT
  clear HT
  have HT := Lib.hid (StateAt.below HX.out (b) (StateAt.lt HX.out))
  clear HX
  have HX := HT
  clear HT
  have HT := Lib.hid (HL0.out.below (b))
  clear HL0
  have HL0 := HT
  clear HT
  have HT := Lib.hid (HL1.out.below (b))
  clear HL1
  have HL1 := HT
  clear HT
  clear b HBT
  clear z0 z1 z2 z3 x0 x1 x2 x3 x4
  go_wp2_with fail
  go_loopw [9] (fun i wr => ∃ k : Nat, k ≤ l.length ∧ i = .int .i64 k ∧ Hid (Below wc2.heap.size wc2 wr)) (fun i _ => l.length - (intOf i).toNat)
  case atStart => exact ⟨0, Nat.zero_le _, rfl, Lib.hid (Below.refl _ _)⟩
  case round =>
    obtain ⟨k, hk, rfl, HB⟩ := hrel
    by_cases hlt : k < l.length
    · obtain ⟨g, off, rfl, hg, hx⟩ := HL0.out.at hlt
      obtain ⟨g', off', rfl, hg', hy⟩ := HL1.out.at hlt
      replace hx := hx.below HB.out hg
      replace hy := hy.below HB.out hg'
      obtain ⟨y, hye⟩ : ∃ y, y = ssOf l k := ⟨_, rfl⟩
      rw [← hye] at hx hy
      clear hye hg hg'
      have HXW := Lib.hid (fun W (hW : Below wr.heap.size wr W) => (hx.below hW hx.lt).all)
      have HYW := Lib.hid (fun W (hW : Below wr.heap.size wr W) => (hy.below hW hy.lt).all)
      have HD := Lib.hid (show Below wr.heap.size wr wr.drew from Below.drew (Below.refl _ _))
      have HBD := Lib.hid (below_two HB.out HD.out)
      have ne := fun w => state_neq_self y.t y.m y.r y.s y.k w
      clear hx hy HB
      go_upto_region 11 with fail
      refine wp_region_held_drew (S := fun w' => (w'.cell? ⟨g, off + k * 5, none⟩ = some (.int .i64 y.t) ∧ w'.cell? ⟨g, off + k * 5 + 1, none⟩ = some (.int .i64 y.m) ∧ w'.cell? ⟨g, off + k * 5 + 2, none⟩ = some (.int .i64 y.r) ∧ w'.cell? ⟨g, off + k * 5 + 3, none⟩ = some (.int .i64 y.s) ∧ w'.cell? ⟨g, off + k * 5 + 4, none⟩ = some (.int .i64 y.k)) ∧ (w'.cell? ⟨g', off' + k * 5, none⟩ = some (.int .i64 y.t) ∧ w'.cell? ⟨g', off' + k * 5 + 1, none⟩ = some (.int .i64 y.m) ∧ w'.cell? ⟨g', off' + k * 5 + 2, none⟩ = some (.int .i64 y.r) ∧ w'.cell? ⟨g', off' + k * 5 + 3, none⟩ = some (.int .i64 y.s) ∧ w'.cell? ⟨g', off' + k * 5 + 4, none⟩ = some (.int .i64 y.k))) (by kernel_rfl) (⟨HXW.out _ HD.out, HYW.out _ HD.out⟩) (fun hHeld => ?_)
      generalize wr.drew = w1 at HBD hHeld ⊢
      clear HXW HYW HD
      refine wpAnyH_take (i := 0) (v := ?_) rfl (by kernel_rfl) (by kernel_rfl) (by kernel_rfl) (fun _ _ _ h => h) (Or.inl ⟨by rfl, ?_⟩) (by assumption) ?_
      rotate_left
      · (intro w hSw; (try dsimp only at hSw); go_simp; (try with_reducible rfl))
      try simp only [List.getElem_toArray, List.getElem_cons_succ, List.getElem_cons_zero, Act.put, List.setIfInBounds_toArray, List.set_cons_zero, List.set_cons_succ]
      refine wpAnyH_take (i := 1) (v := ?_) rfl (by kernel_rfl) (by kernel_rfl) (by kernel_rfl) (fun _ _ _ h => h) (Or.inl ⟨by rfl, ?_⟩) (by assumption) ?_
      rotate_left
      · (intro w hSw; (try dsimp only at hSw); go_simp; (try with_reducible rfl))
      try simp only [List.getElem_toArray, List.getElem_cons_succ, List.getElem_cons_zero, Act.put, List.setIfInBounds_toArray, List.set_cons_zero, List.set_cons_succ]
      refine wpAnyH_take (i := 2) (v := ?_) rfl (by kernel_rfl) (by kernel_rfl) (by kernel_rfl) (fun _ _ _ h => h) (Or.inl ⟨by rfl, ?_⟩) (by assumption) ?_
      rotate_left
      · (intro w hSw; (try dsimp only at hSw); go_simp; (try with_reducible rfl))
      try simp only [List.getElem_toArray, List.getElem_cons_succ, List.getElem_cons_zero, Act.put, List.setIfInBounds_toArray, List.set_cons_zero, List.set_cons_succ]
      refine wpAnyH_take (i := 3) (v := ?_) rfl (by kernel_rfl) (by kernel_rfl) (by kernel_rfl) (fun _ _ _ h => h) (Or.inl ⟨by rfl, ?_⟩) (by assumption) ?_
      rotate_left
      · (intro w hSw; (try dsimp only at hSw); go_simp; (try with_reducible rfl))
      try simp only [List.getElem_toArray, List.getElem_cons_succ, List.getElem_cons_zero, Act.put, List.setIfInBounds_toArray, List.set_cons_zero, List.set_cons_succ]
      refine wpAnyH_take (i := 4) (v := ?_) rfl (by kernel_rfl) (by kernel_rfl) (by kernel_rfl) (fun _ _ _ h => h) (Or.inl ⟨by rfl, ?_⟩) (by assumption) ?_
      rotate_left
      · (intro w hSw; (try dsimp only at hSw); go_simp; (try with_reducible rfl))
      try simp only [List.getElem_toArray, List.getElem_cons_succ, List.getElem_cons_zero, Act.put, List.setIfInBounds_toArray, List.set_cons_zero, List.set_cons_succ]
      refine wpAnyH_take (i := 5) (v := ?_) rfl (by kernel_rfl) (by kernel_rfl) (by kernel_rfl) (fun _ _ _ h => h) (Or.inl ⟨by rfl, ?_⟩) (by assumption) ?_
      rotate_left
      · (intro w hSw; (try dsimp only at hSw); go_simp; (try with_reducible rfl))
      try simp only [List.getElem_toArray, List.getElem_cons_succ, List.getElem_cons_zero, Act.put, List.setIfInBounds_toArray, List.set_cons_zero, List.set_cons_succ]
      refine wpAnyH_take (i := 6) (v := ?_) rfl (by kernel_rfl) (by kernel_rfl) (by kernel_rfl) (fun _ _ _ h => h) (Or.inl ⟨by rfl, ?_⟩) (by assumption) ?_
      rotate_left
      · (intro w hSw; (try dsimp only at hSw); go_simp; (try with_reducible rfl))
      try simp only [List.getElem_toArray, List.getElem_cons_succ, List.getElem_cons_zero, Act.put, List.setIfInBounds_toArray, List.set_cons_zero, List.set_cons_succ]
      refine wpAnyH_take (i := 7) (v := ?_) rfl (by kernel_rfl) (by kernel_rfl) (by kernel_rfl) (fun _ _ _ h => h) (Or.inl ⟨by rfl, ?_⟩) (by assumption) ?_
      rotate_left
      · (intro w hSw; (try dsimp only at hSw); go_simp; (try with_reducible rfl))
      try simp only [List.getElem_toArray, List.getElem_cons_succ, List.getElem_cons_zero, Act.put, List.setIfInBounds_toArray, List.set_cons_zero, List.set_cons_succ]
      refine wpAnyH_take (i := 8) (v := ?_) rfl (by kernel_rfl) (by kernel_rfl) (by kernel_rfl) (fun _ _ _ h => h) (Or.inl ⟨by rfl, ?_⟩) (by assumption) ?_
      rotate_left
      · (intro w hSw; (try dsimp only at hSw); go_simp; (try with_reducible rfl))
      try simp only [List.getElem_toArray, List.getElem_cons_succ, List.getElem_cons_zero, Act.put, List.setIfInBounds_toArray, List.set_cons_zero, List.set_cons_succ]
      refine wpAnyH_done (by kernel_rfl) ?_ _
      clear hHeld ne
      go_wp2_with fail
      go_roundw
      case rel => exact ⟨k + 1, by omega, by go_num, HBD⟩
      case measure => simp [intOf]; omega
    have hkn : k = l.length := by omega
    subst hkn
    clear HL1
    have HT := Lib.hid (HS.out.call (HB.out))
    clear HS
    have HS := HT
    clear HT
    have HT := Lib.hid (StateAt.below HX.out (HB.out) (StateAt.lt HX.out))
    clear HX
    have HX := HT
    clear HT
    have HT := Lib.hid (HL0.out.below (HB.out))
    clear HL0
    have HL0 := HT
    clear HT
    clear HB hk hlt
    by_cases hc : c = 0
    rotate_left
    · have hcb : (c != 0) = true := by simp [hc]
      clear HOK hc HCS HCT HNX
      go_wp2_with fail
      go_ret
      exact ⟨rfl, HS.out.below⟩
    have hcb : (c != 0) = false := by simp [hc]
    obtain ⟨P, y, cy, hlP, hP, hl0, hcs, hnx, hct, hyr, hys, hyt, cy0, cy1, t0, t1⟩ := HOK.out hc
    have HCS1 := Lib.hid (fun W (hW : RdMe W v) => by have h := HCS.out W hW; rw [hcs] at h; exact h)
    have HCT1 := Lib.hid (fun W (hW : RdMe W v) => by have h := HCT.out W hW; rw [hct] at h; exact h)
    have HNX1 := Lib.hid (fun W (hW : RdMe W v) => by have h := HNX.out (ssOf l P) W hW; rw [hnx] at h; exact h)
    clear HOK HCS HCT HNX hcs hct hnx hbb hc1 hlb
    have h0t := (show 0 < l.length by omega)
    have hPt := (show P < l.length by omega)
    obtain ⟨g, off, rfl, hg, hx⟩ := HL0.out.at hPt
    obtain ⟨g', off', he, hg', hx0⟩ := HL0.out.at h0t
    obtain ⟨rfl, rfl⟩ : g = g' ∧ off = off' := by simp only [Option.some.injEq, Addr.mk.injEq] at he; exact ⟨he.1, he.2.1⟩
    rw [hl0] at hx0
    obtain ⟨u, hu⟩ : ∃ u, u = ssOf l P := ⟨_, rfl⟩
    rw [← hu] at hx HNX1
    have HU := Lib.hid hx
    have HV := Lib.hid hx0
    clear hu hx hx0 he hg' hl0 HL0 h0t hPt
    rw [hlP]
    clear hlP hll
    subst hc
    obtain ⟨z0, z1, z2, z3⟩ := (HS.out.b 0 rfl).all
    have x0 := HX.out.c0; have x1 := HX.out.c1; have x2 := HX.out.c2; have x3 := HX.out.c3; have x4 := HX.out.c4
    go_wp2_with fail
    refine (HCS1.out _ (HS.out.r 0 rfl)).mono ?_
    rintro e wd1 ⟨rfl, b⟩
    have HT := Lib.hid (HS.out.call (b))
    clear HS
    have HS := HT
    clear HT
    have HT := Lib.hid (StateAt.below HX.out (b) (StateAt.lt HX.out))
    clear HX
    have HX := HT
    clear HT
    have HT := Lib.hid (HU.out.below (b) HU.out.lt)
    clear HU
    have HU := HT
    clear HT
    have HT := Lib.hid (HV.out.below (b) HV.out.lt)
    clear HV
    have HV := HT
    clear HT
    clear b HCS1
    clear z0 z1 z2 z3 x0 x1 x2 x3 x4
    have HYE := Lib.hid (And.intro hyr (And.intro hys hyt))
    clear hyr hys hyt
    have hw1 : IntKind.i64.wrap (P : Int) = (P : Int) := by rw [IntKind.wrap_i64]; omega
    have hpp : (P : Int) < (P : Int) + 1 := by omega
    have hp0 : 0 ≤ (P : Int) := by omega
    go_upto_region 16 with fail
    go_cut [12, 13] (fun s12 s13 wx => ∃ wy, wy = wx ∧ ∃ J, s12 = .pointer (some ⟨J, 0, none⟩) ∧ s13 = .int .i64 0 ∧ Hid (Below wd1.heap.size wd1 wy) ∧ Hid (StateAt 30 wy J y.t y.m y.r y.s y.k))
    case first =>
      have HB1 := Lib.hid (Below.drew (Below.refl wd1.heap.size wd1))
      have HRA := Lib.hid (fun W (hW : Below wd1.heap.size wd1 W) => (HS.out.r 0 rfl).below hW)
      have HSW := Lib.hid (fun W (hW : Below wd1.heap.size wd1 W) => (show (W.cell? ⟨B, 0, none⟩ = some (.int .i64 v.id) ∧ W.cell? ⟨B, 1, none⟩ = some (.slice v.no v.n.length v.nc) ∧ W.cell? ⟨B, 2, none⟩ = some (.slice v.mo v.cs.length v.mc) ∧ W.cell? ⟨B, 3, none⟩ = some (.slice v.eo v.e.length v.ec)) ∧ (W.cell? ⟨g, off + P * 5, none⟩ = some (.int .i64 u.t) ∧ W.cell? ⟨g, off + P * 5 + 1, none⟩ = some (.int .i64 u.m) ∧ W.cell? ⟨g, off + P * 5 + 2, none⟩ = some (.int .i64 u.r) ∧ W.cell? ⟨g, off + P * 5 + 3, none⟩ = some (.int .i64 u.s) ∧ W.cell? ⟨g, off + P * 5 + 4, none⟩ = some (.int .i64 u.k)) from ⟨((HS.out.call hW).b 0 rfl).all, (HU.out.below hW HU.out.lt).all⟩))
      refine wp_region_held_drew (S := fun w' => (w'.cell? ⟨B, 0, none⟩ = some (.int .i64 v.id) ∧ w'.cell? ⟨B, 1, none⟩ = some (.slice v.no v.n.length v.nc) ∧ w'.cell? ⟨B, 2, none⟩ = some (.slice v.mo v.cs.length v.mc) ∧ w'.cell? ⟨B, 3, none⟩ = some (.slice v.eo v.e.length v.ec)) ∧ (w'.cell? ⟨g, off + P * 5, none⟩ = some (.int .i64 u.t) ∧ w'.cell? ⟨g, off + P * 5 + 1, none⟩ = some (.int .i64 u.m) ∧ w'.cell? ⟨g, off + P * 5 + 2, none⟩ = some (.int .i64 u.r) ∧ w'.cell? ⟨g, off + P * 5 + 3, none⟩ = some (.int .i64 u.s) ∧ w'.cell? ⟨g, off + P * 5 + 4, none⟩ = some (.int .i64 u.k))) (by kernel_rfl) (HSW.out _ HB1.out) (fun hHeld => ?_)
      generalize wd1.drew = y1 at HB1 hHeld ⊢
      refine wpAnyH_take (i := 0) (v := ?_) rfl (by kernel_rfl) (by kernel_rfl) (by kernel_rfl) (fun _ _ _ h => h) (Or.inl ⟨by rfl, ?_⟩) (by assumption) ?_
      rotate_left
      · (intro w hSw; (try dsimp only at hSw); go_simp; (try with_reducible rfl))
      try simp only [List.getElem_toArray, List.getElem_cons_succ, List.getElem_cons_zero, Act.put, List.setIfInBounds_toArray, List.set_cons_zero, List.set_cons_succ]
      refine wpAnyH_take (i := 1) (v := ?_) rfl (by kernel_rfl) (by kernel_rfl) (by kernel_rfl) (fun _ _ _ h => h) (Or.inl ⟨by rfl, ?_⟩) (by assumption) ?_
      rotate_left
      · (intro w hSw; (try dsimp only at hSw); go_simp; (try with_reducible rfl))
      try simp only [List.getElem_toArray, List.getElem_cons_succ, List.getElem_cons_zero, Act.put, List.setIfInBounds_toArray, List.set_cons_zero, List.set_cons_succ]
      refine wpAnyH_take (i := 2) (v := ?_) rfl (by kernel_rfl) (by kernel_rfl) (by kernel_rfl) (fun _ _ _ h => h) (Or.inl ⟨by rfl, ?_⟩) (by assumption) ?_
      rotate_left
      · (intro w hSw; (try dsimp only at hSw); go_simp; (try with_reducible rfl))
      try simp only [List.getElem_toArray, List.getElem_cons_succ, List.getElem_cons_zero, Act.put, List.setIfInBounds_toArray, List.set_cons_zero, List.set_cons_succ]
      refine wpAnyH_take (i := 3) (v := ?_) rfl (by kernel_rfl) (by kernel_rfl) (by kernel_rfl) (fun _ _ _ h => h) (Or.inl ⟨by rfl, ?_⟩) (by assumption) ?_
      rotate_left
      · (intro w hSw; (try dsimp only at hSw); go_simp; (try with_reducible rfl))
      try simp only [List.getElem_toArray, List.getElem_cons_succ, List.getElem_cons_zero, Act.put, List.setIfInBounds_toArray, List.set_cons_zero, List.set_cons_succ]
      refine wpAnyH_take (i := 4) (v := ?_) rfl (by kernel_rfl) (by kernel_rfl) (by kernel_rfl) (fun _ _ _ h => h) (Or.inl ⟨by rfl, ?_⟩) (by assumption) ?_
      rotate_left
      · (intro w hSw; (try dsimp only at hSw); go_simp; (try with_reducible rfl))
      try simp only [List.getElem_toArray, List.getElem_cons_succ, List.getElem_cons_zero, Act.put, List.setIfInBounds_toArray, List.set_cons_zero, List.set_cons_succ]
      refine wpAnyH_take (i := 5) (v := ?_) rfl (by kernel_rfl) (by kernel_rfl) (by kernel_rfl) (fun _ _ _ h => h) (Or.inl ⟨by rfl, ?_⟩) (by assumption) ?_
      rotate_left
      · (intro w hSw; (try dsimp only at hSw); go_simp; (try with_reducible rfl))
      try simp only [List.getElem_toArray, List.getElem_cons_succ, List.getElem_cons_zero, Act.put, List.setIfInBounds_toArray, List.set_cons_zero, List.set_cons_succ]
      refine wpAnyH_take (i := 6) (v := ?_) rfl (by kernel_rfl) (by kernel_rfl) (by kernel_rfl) (fun _ _ _ h => h) (Or.inl ⟨by rfl, ?_⟩) (by assumption) ?_
      rotate_left
      · (intro w hSw; (try dsimp only at hSw); go_simp; (try with_reducible rfl))
      try simp only [List.getElem_toArray, List.getElem_cons_succ, List.getElem_cons_zero, Act.put, List.setIfInBounds_toArray, List.set_cons_zero, List.set_cons_succ]
      refine wpAnyH_ready (rs := [7, 11]) (by kernel_rfl) (by simp) (AllReadyH.cons rfl (fun K hK => ?_) (AllReadyH.cons rfl (fun K hK => ?_) (AllReadyH.nil)))
      · go_simp
        refine (HNX1.out _ (HRA.out _ HB1.out)).mono ?_
        rintro e y2 ⟨rfl, b2⟩
        have HB2 := Lib.hid (below_two HB1.out b2)
        clear b2 HB1
        go_wp2_with fail
        refine hK.out _ _ ?_ (fun hHeld => ?_)
        · exact HSW.out _ HB2.out
        clear hK K
        try simp only [List.getElem_toArray, List.getElem_cons_succ, List.getElem_cons_zero, Act.put, List.setIfInBounds_toArray, List.set_cons_zero, List.set_cons_succ]
        refine wpAnyH_take (i := 8) (v := ?_) rfl (by kernel_rfl) (by kernel_rfl) (by kernel_rfl) (fun _ _ _ h => h) (Or.inl ⟨by rfl, ?_⟩) (by assumption) ?_
        rotate_left
        · (intro w hSw; (try dsimp only at hSw); go_simp; (try with_reducible rfl))
        try simp only [List.getElem_toArray, List.getElem_cons_succ, List.getElem_cons_zero, Act.put, List.setIfInBounds_toArray, List.set_cons_zero, List.set_cons_succ]
        refine wpAnyH_take (i := 9) (v := ?_) rfl (by kernel_rfl) (by kernel_rfl) (by kernel_rfl) (fun _ _ _ h => h) (Or.inl ⟨by rfl, ?_⟩) (by assumption) ?_
        rotate_left
        · (intro w hSw; (try dsimp only at hSw); go_simp; (try with_reducible rfl))
        try simp only [List.getElem_toArray, List.getElem_cons_succ, List.getElem_cons_zero, Act.put, List.setIfInBounds_toArray, List.set_cons_zero, List.set_cons_succ]
        refine wpAnyH_take (i := 10) (v := ?_) rfl (by kernel_rfl) (by kernel_rfl) (by kernel_rfl) (fun _ _ _ h => h) (Or.inl ⟨by rfl, ?_⟩) (by assumption) ?_
        rotate_left
        · (intro w hSw; (try dsimp only at hSw); go_simp; (try with_reducible rfl))
        try simp only [List.getElem_toArray, List.getElem_cons_succ, List.getElem_cons_zero, Act.put, List.setIfInBounds_toArray, List.set_cons_zero, List.set_cons_succ]
        have HB8 := Lib.hid (below_two HB2.out ((Below.refl y2.heap.size y2).alloc (Nat.le_refl _) (.cells #[.int .i64 0, .int .i64 0, .int .i64 0, .int .i64 0, .int .i64 0] 30)))
        refine wpAnyH_ready (rs := [11]) (by kernel_rfl) (by simp) (AllReadyH.cons rfl (fun K hK => ?_) AllReadyH.nil)
        go_simp
        refine hK.out _ _ ?_ (fun hHeld => ?_)
        · exact HSW.out _ HB8.out
        clear hK K
        try simp only [List.getElem_toArray, List.getElem_cons_succ, List.getElem_cons_zero, Act.put, List.setIfInBounds_toArray, List.set_cons_zero, List.set_cons_succ]
        have HB9 := Lib.hid (below_two HB2.out ((Below.refl y2.heap.size y2).alloc (Nat.le_refl _) (.cells #[.int .i64 y.t, .int .i64 y.m, .int .i64 y.r, .int .i64 y.s, .int .i64 y.k] 30)))
        have TY := Lib.hid (StateAt.new (T := 30) (t := y.t) (m := y.m) (r := y.r) (s := y.s) (k := y.k) y2)
        refine wpAnyH_ready (rs := [12]) (by kernel_rfl) (by simp) (AllReadyH.cons rfl (fun K hK => ?_) AllReadyH.nil)
        go_simp
        refine hK.out _ _ ?_ (fun hHeld => ?_)
        · exact HSW.out _ HB9.out
        clear hK K
        try simp only [List.getElem_toArray, List.getElem_cons_succ, List.getElem_cons_zero, Act.put, List.setIfInBounds_toArray, List.set_cons_zero, List.set_cons_succ]
        refine wpAnyH_take (i := 13) (v := ?_) rfl (by kernel_rfl) (by kernel_rfl) (by kernel_rfl) (fun _ _ _ h => h) (Or.inl ⟨by rfl, ?_⟩) (by assumption) ?_
        rotate_left
        · (intro w hSw; (try dsimp only at hSw); go_simp; (try with_reducible rfl))
        try simp only [List.getElem_toArray, List.getElem_cons_succ, List.getElem_cons_zero, Act.put, List.setIfInBounds_toArray, List.set_cons_zero, List.set_cons_succ]
        refine wpAnyH_done (by kernel_rfl) ?_ _
        clear hHeld HB8 HB2
        obtain ⟨Y, hY⟩ : ∃ Y, Y = y2.heap.size := ⟨_, rfl⟩
        rw [← hY] at TY ⊢
        clear hY
        generalize y2.alloc (.cells #[.int .i64 y.t, .int .i64 y.m, .int .i64 y.r, .int .i64 y.s, .int .i64 y.k] 30) = w7 at HB9 TY ⊢
        go_wp2_with fail
        go_meet
        exact ⟨_, rfl, Y, rfl, rfl, HB9, TY⟩
      · have HB2 := Lib.hid (below_two HB1.out ((Below.refl y1.heap.size y1).alloc (Nat.le_refl _) (.cells #[.int .i64 0, .int .i64 0, .int .i64 0, .int .i64 0, .int .i64 0] 30)))
        have TZ2 := Lib.hid (StateAt.new (T := 30) (t := 0) (m := 0) (r := 0) (s := 0) (k := 0) y1)
        have HY := Lib.hid HB1.out.size
        go_simp
        refine hK.out _ _ ?_ (fun hHeld => ?_)
        · exact HSW.out _ HB2.out
        clear hK K HB1
        obtain ⟨Y, hY⟩ : ∃ Y, Y = y1.heap.size := ⟨_, rfl⟩
        rw [← hY] at TZ2 HY ⊢
        clear hY
        generalize y1.alloc (.cells #[.int .i64 0, .int .i64 0, .int .i64 0, .int .i64 0, .int .i64 0] 30) = y2 at HB2 TZ2 hHeld ⊢
        try simp only [List.getElem_toArray, List.getElem_cons_succ, List.getElem_cons_zero, Act.put, List.setIfInBounds_toArray, List.set_cons_zero, List.set_cons_succ]
        refine wpAnyH_ready (rs := [7]) (by kernel_rfl) (by simp) (AllReadyH.cons rfl (fun K hK => ?_) AllReadyH.nil)
        go_simp
        refine (HNX1.out _ (HRA.out _ HB2.out)).mono ?_
        rintro e y3 ⟨rfl, b3⟩
        have HB3 := Lib.hid (below_two HB2.out b3)
        have TZ3 := Lib.hid (StateAt.below TZ2.out b3 (StateAt.lt TZ2.out))
        clear b3 HB2 TZ2
        go_wp2_with fail
        refine hK.out _ _ ?_ (fun hHeld => ?_)
        · exact HSW.out _ HB3.out
        clear hK K
        try simp only [List.getElem_toArray, List.getElem_cons_succ, List.getElem_cons_zero, Act.put, List.setIfInBounds_toArray, List.set_cons_zero, List.set_cons_succ]
        refine wpAnyH_take (i := 8) (v := ?_) rfl (by kernel_rfl) (by kernel_rfl) (by kernel_rfl) (fun _ _ _ h => h) (Or.inl ⟨by rfl, ?_⟩) (by assumption) ?_
        rotate_left
        · (intro w hSw; (try dsimp only at hSw); go_simp; (try with_reducible rfl))
        try simp only [List.getElem_toArray, List.getElem_cons_succ, List.getElem_cons_zero, Act.put, List.setIfInBounds_toArray, List.set_cons_zero, List.set_cons_succ]
        refine wpAnyH_take (i := 9) (v := ?_) rfl (by kernel_rfl) (by kernel_rfl) (by kernel_rfl) (fun _ _ _ h => h) (Or.inl ⟨by rfl, ?_⟩) (by assumption) ?_
        rotate_left
        · (intro w hSw; (try dsimp only at hSw); go_simp; (try with_reducible rfl))
        try simp only [List.getElem_toArray, List.getElem_cons_succ, List.getElem_cons_zero, Act.put, List.setIfInBounds_toArray, List.set_cons_zero, List.set_cons_succ]
        refine wpAnyH_take (i := 10) (v := ?_) rfl (by kernel_rfl) (by kernel_rfl) (by kernel_rfl) (fun _ _ _ h => h) (Or.inl ⟨by rfl, ?_⟩) (by assumption) ?_
        rotate_left
        · (intro w hSw; (try dsimp only at hSw); go_simp; (try with_reducible rfl))
        try simp only [List.getElem_toArray, List.getElem_cons_succ, List.getElem_cons_zero, Act.put, List.setIfInBounds_toArray, List.set_cons_zero, List.set_cons_succ]
        have HB9 := Lib.hid (HB3.out.trans (below_five (w := y3) HY.out y.t y.m y.r y.s y.k))
        have TY := Lib.hid (StateAt.five TZ3.out y.t y.m y.r y.s y.k)
        have z0 := StateAt.c0 TZ3.out; have k0 := StateAt.f TZ3.out 0
        have z1 := StateAt.c1 TZ3.out; have k1 := StateAt.f TZ3.out 1
        have z2 := StateAt.c2 TZ3.out; have k2 := StateAt.f TZ3.out 2
        have z3 := StateAt.c3 TZ3.out; have k3 := StateAt.f TZ3.out 3
        have z4 := StateAt.c4 TZ3.out; have k4 := StateAt.f TZ3.out 4
        refine wpAnyH_ready (rs := [12]) (by kernel_rfl) (by simp) (AllReadyH.cons rfl (fun K hK => ?_) AllReadyH.nil)
        go_simp
        refine hK.out _ _ ?_ (fun hHeld => ?_)
        · exact HSW.out _ HB9.out
        clear hK K z0 z1 z2 z3 z4 k0 k1 k2 k3 k4
        try simp only [List.getElem_toArray, List.getElem_cons_succ, List.getElem_cons_zero, Act.put, List.setIfInBounds_toArray, List.set_cons_zero, List.set_cons_succ]
        refine wpAnyH_take (i := 13) (v := ?_) rfl (by kernel_rfl) (by kernel_rfl) (by kernel_rfl) (fun _ _ _ h => h) (Or.inl ⟨by rfl, ?_⟩) (by assumption) ?_
        rotate_left
        · (intro w hSw; (try dsimp only at hSw); go_simp; (try with_reducible rfl))
        try simp only [List.getElem_toArray, List.getElem_cons_succ, List.getElem_cons_zero, Act.put, List.setIfInBounds_toArray, List.set_cons_zero, List.set_cons_succ]
        refine wpAnyH_done (by kernel_rfl) ?_ _
        clear hHeld
        rw [show (((((y3.setCell ⟨Y, 0, none⟩ (.int .i64 y.t)).setCell ⟨Y, 1, none⟩ (.int .i64 y.m)).setCell ⟨Y, 2, none⟩ (.int .i64 y.r)).setCell ⟨Y, 3, none⟩ (.int .i64 y.s)).setCell ⟨Y, 4, none⟩ (.int .i64 y.k)) = (setFive y3 Y y.t y.m y.r y.s y.k) from rfl]
        generalize (setFive y3 Y y.t y.m y.r y.s y.k) = w7 at HB9 TY ⊢
        go_wp2_with fail
        go_meet
        exact ⟨_, rfl, Y, rfl, rfl, HB9, TY⟩
    case rest =>
      obtain ⟨wd2, rfl, J, rfl, rfl, HBY, HY⟩ := hcut
      have HT := Lib.hid (HS.out.call (HBY.out))
      clear HS
      have HS := HT
      clear HT
      have HT := Lib.hid (StateAt.below HX.out (HBY.out) (StateAt.lt HX.out))
      clear HX
      have HX := HT
      clear HT
      have HT := Lib.hid (HU.out.below (HBY.out) HU.out.lt)
      clear HU
      have HU := HT
      clear HT
      have HT := Lib.hid (HV.out.below (HBY.out) HV.out.lt)
      clear HV
      have HV := HT
      clear HT
      obtain ⟨hyr, hys, hyt⟩ := HYE.out
      rw [hyr, hys, hyt] at HY
      clear HBY HNX1 hw1 hpp hp0 hyr hys hyt HYE
      obtain ⟨z0, z1, z2, z3⟩ := (HS.out.b 0 rfl).all
      have x0 := HX.out.c0; have x1 := HX.out.c1; have x2 := HX.out.c2; have x3 := HX.out.c3; have x4 := HX.out.c4
      go_wp2_with fail
      refine (HCT1.out _ (HS.out.r 0 rfl)).mono ?_
      rintro e wd3 ⟨rfl, b⟩
      have HT := Lib.hid (HS.out.call (b))
      clear HS
      have HS := HT
      clear HT
      have HT := Lib.hid (StateAt.below HX.out (b) (StateAt.lt HX.out))
      clear HX
      have HX := HT
      clear HT
      have HT := Lib.hid (HU.out.below (b) HU.out.lt)
      clear HU
      have HU := HT
      clear HT
      have HT := Lib.hid (HV.out.below (b) HV.out.lt)
      clear HV
      have HV := HT
      clear HT
      have HT := Lib.hid (StateAt.below HY.out (b) (StateAt.lt HY.out))
      clear HY
      have HY := HT
      clear HT
      clear b HCT1
      clear z0 z1 z2 z3 x0 x1 x2 x3 x4
      have hw2 : IntKind.i64.wrap (x.t + cy) = x.t + cy := by rw [IntKind.wrap_i64]; omega
      have hw3 : (x.t + cy).tmod 65536 = (x.t + cy) % 65536 := Int.tmod_eq_emod_of_nonneg (by omega)
      have hw4 : IntKind.i64.wrap ((x.t + cy) % 65536) = (x.t + cy) % 65536 := by rw [IntKind.wrap_i64]; omega
      have eq1 := fun w => state_eql_self x.t x.m x.r x.s x.k w
      have e1 : (x.r == x.r) = true := beq_self_eq_true _
      have e2 : (x.s == x.s) = true := beq_self_eq_true _
      have e3 : ((x.t + cy) % 65536 == (x.t + cy) % 65536) = true := beq_self_eq_true _
      have e4 : (((P + 1 : Nat) : Int) == ((P + 1 : Nat) : Int)) = true := beq_self_eq_true _
      have HD := Lib.hid (show Below wd3.heap.size wd3 wd3.drew from Below.drew (Below.refl _ _))
      have HSZ := Lib.hid (HS.out.call HD.out)
      have HC18 := Lib.hid (fin18 HV.out HX.out HY.out HD.out)
      clear HS HV HX HY HU
      go_upto_region 18 with fail
      refine wp_region_held_drew (S := fun w' => w'.cell? ⟨g, off, none⟩ = some (.int .i64 x.t) ∧ w'.cell? ⟨g, off + 1, none⟩ = some (.int .i64 x.m) ∧ w'.cell? ⟨g, off + 2, none⟩ = some (.int .i64 x.r) ∧ w'.cell? ⟨g, off + 3, none⟩ = some (.int .i64 x.s) ∧ w'.cell? ⟨g, off + 4, none⟩ = some (.int .i64 x.k) ∧ w'.cell? ⟨B + 1, 0, none⟩ = some (.int .i64 x.t) ∧ w'.cell? ⟨B + 1, 1, none⟩ = some (.int .i64 x.m) ∧ w'.cell? ⟨B + 1, 2, none⟩ = some (.int .i64 x.r) ∧ w'.cell? ⟨B + 1, 3, none⟩ = some (.int .i64 x.s) ∧ w'.cell? ⟨B + 1, 4, none⟩ = some (.int .i64 x.k) ∧ w'.cell? ⟨J, 0, none⟩ = some (.int .i64 ((x.t + cy) % 65536)) ∧ w'.cell? ⟨J, 2, none⟩ = some (.int .i64 x.r) ∧ w'.cell? ⟨J, 3, none⟩ = some (.int .i64 x.s)) (by kernel_rfl) (HC18.out) (fun hHeld => ?_)
      clear HD
      generalize wd3.drew = w18 at HSZ hHeld ⊢
      clear HC18
      refine wpAnyH_take (i := 0) (v := ?_) rfl (by kernel_rfl) (by kernel_rfl) (by kernel_rfl) (fun _ _ _ h => h) (Or.inl ⟨by rfl, ?_⟩) (by assumption) ?_
      rotate_left
      · (intro w hSw; (try dsimp only at hSw); go_simp; (try with_reducible rfl))
      try simp only [List.getElem_toArray, List.getElem_cons_succ, List.getElem_cons_zero, Act.put, List.setIfInBounds_toArray, List.set_cons_zero, List.set_cons_succ]
      refine wpAnyH_take (i := 1) (v := ?_) rfl (by kernel_rfl) (by kernel_rfl) (by kernel_rfl) (fun _ _ _ h => h) (Or.inl ⟨by rfl, ?_⟩) (by assumption) ?_
      rotate_left
      · (intro w hSw; (try dsimp only at hSw); go_simp; (try with_reducible rfl))
      try simp only [List.getElem_toArray, List.getElem_cons_succ, List.getElem_cons_zero, Act.put, List.setIfInBounds_toArray, List.set_cons_zero, List.set_cons_succ]
      refine wpAnyH_take (i := 2) (v := ?_) rfl (by kernel_rfl) (by kernel_rfl) (by kernel_rfl) (fun _ _ _ h => h) (Or.inl ⟨by rfl, ?_⟩) (by assumption) ?_
      rotate_left
      · (intro w hSw; (try dsimp only at hSw); go_simp; (try with_reducible rfl))
      try simp only [List.getElem_toArray, List.getElem_cons_succ, List.getElem_cons_zero, Act.put, List.setIfInBounds_toArray, List.set_cons_zero, List.set_cons_succ]
      refine wpAnyH_take (i := 3) (v := ?_) rfl (by kernel_rfl) (by kernel_rfl) (by kernel_rfl) (fun _ _ _ h => h) (Or.inl ⟨by rfl, ?_⟩) (by assumption) ?_
      rotate_left
      · (intro w hSw; (try dsimp only at hSw); go_simp; (try with_reducible rfl))
      try simp only [List.getElem_toArray, List.getElem_cons_succ, List.getElem_cons_zero, Act.put, List.setIfInBounds_toArray, List.set_cons_zero, List.set_cons_succ]
      refine wpAnyH_take (i := 4) (v := ?_) rfl (by kernel_rfl) (by kernel_rfl) (by kernel_rfl) (fun _ _ _ h => h) (Or.inl ⟨by rfl, ?_⟩) (by assumption) ?_
      rotate_left
      · (intro w hSw; (try dsimp only at hSw); go_simp; (try with_reducible rfl))
      try simp only [List.getElem_toArray, List.getElem_cons_succ, List.getElem_cons_zero, Act.put, List.setIfInBounds_toArray, List.set_cons_zero, List.set_cons_succ]
      refine wpAnyH_take (i := 5) (v := ?_) rfl (by kernel_rfl) (by kernel_rfl) (by kernel_rfl) (fun _ _ _ h => h) (Or.inl ⟨by rfl, ?_⟩) (by assumption) ?_
      rotate_left
      · (intro w hSw; (try dsimp only at hSw); go_simp; (try with_reducible rfl))
      try simp only [List.getElem_toArray, List.getElem_cons_succ, List.getElem_cons_zero, Act.put, List.setIfInBounds_toArray, List.set_cons_zero, List.set_cons_succ]
      refine wpAnyH_take (i := 6) (v := ?_) rfl (by kernel_rfl) (by kernel_rfl) (by kernel_rfl) (fun _ _ _ h => h) (Or.inl ⟨by rfl, ?_⟩) (by assumption) ?_
      rotate_left
      · (intro w hSw; (try dsimp only at hSw); go_simp; (try with_reducible rfl))
      try simp only [List.getElem_toArray, List.getElem_cons_succ, List.getElem_cons_zero, Act.put, List.setIfInBounds_toArray, List.set_cons_zero, List.set_cons_succ]
      refine wpAnyH_take (i := 7) (v := ?_) rfl (by kernel_rfl) (by kernel_rfl) (by kernel_rfl) (fun _ _ _ h => h) (Or.inl ⟨by rfl, ?_⟩) (by assumption) ?_
      rotate_left
      · (intro w hSw; (try dsimp only at hSw); go_simp; (try with_reducible rfl))
      try simp only [List.getElem_toArray, List.getElem_cons_succ, List.getElem_cons_zero, Act.put, List.setIfInBounds_toArray, List.set_cons_zero, List.set_cons_succ]
      refine wpAnyH_take (i := 8) (v := ?_) rfl (by kernel_rfl) (by kernel_rfl) (by kernel_rfl) (fun _ _ _ h => h) (Or.inl ⟨by rfl, ?_⟩) (by assumption) ?_
      rotate_left
      · (intro w hSw; (try dsimp only at hSw); go_simp; (try with_reducible rfl))
      try simp only [List.getElem_toArray, List.getElem_cons_succ, List.getElem_cons_zero, Act.put, List.setIfInBounds_toArray, List.set_cons_zero, List.set_cons_succ]
      refine wpAnyH_take (i := 9) (v := ?_) rfl (by kernel_rfl) (by kernel_rfl) (by kernel_rfl) (fun _ _ _ h => h) (Or.inl ⟨by rfl, ?_⟩) (by assumption) ?_
      rotate_left
      · (intro w hSw; (try dsimp only at hSw); go_simp; (try with_reducible rfl))
      try simp only [List.getElem_toArray, List.getElem_cons_succ, List.getElem_cons_zero, Act.put, List.setIfInBounds_toArray, List.set_cons_zero, List.set_cons_succ]
      refine wpAnyH_take (i := 10) (v := ?_) rfl (by kernel_rfl) (by kernel_rfl) (by kernel_rfl) (fun _ _ _ h => h) (Or.inl ⟨by rfl, ?_⟩) (by assumption) ?_
      rotate_left
      · (intro w hSw; (try dsimp only at hSw); go_simp; (try with_reducible rfl))
      try simp only [List.getElem_toArray, List.getElem_cons_succ, List.getElem_cons_zero, Act.put, List.setIfInBounds_toArray, List.set_cons_zero, List.set_cons_succ]
      refine wpAnyH_take (i := 11) (v := ?_) rfl (by kernel_rfl) (by kernel_rfl) (by kernel_rfl) (fun _ _ _ h => h) (Or.inl ⟨by rfl, ?_⟩) (by assumption) ?_
      rotate_left
      · (intro w hSw; (try dsimp only at hSw); go_simp; (try with_reducible rfl))
      try simp only [List.getElem_toArray, List.getElem_cons_succ, List.getElem_cons_zero, Act.put, List.setIfInBounds_toArray, List.set_cons_zero, List.set_cons_succ]
      refine wpAnyH_take (i := 12) (v := ?_) rfl (by kernel_rfl) (by kernel_rfl) (by kernel_rfl) (fun _ _ _ h => h) (Or.inl ⟨by rfl, ?_⟩) (by assumption) ?_
      rotate_left
      · (intro w hSw; (try dsimp only at hSw); go_simp; (try with_reducible rfl))
      try simp only [List.getElem_toArray, List.getElem_cons_succ, List.getElem_cons_zero, Act.put, List.setIfInBounds_toArray, List.set_cons_zero, List.set_cons_succ]
      refine wpAnyH_take (i := 13) (v := ?_) rfl (by kernel_rfl) (by kernel_rfl) (by kernel_rfl) (fun _ _ _ h => h) (Or.inl ⟨by rfl, ?_⟩) (by assumption) ?_
      rotate_left
      · (intro w hSw; (try dsimp only at hSw); go_simp; (try with_reducible rfl))
      try simp only [List.getElem_toArray, List.getElem_cons_succ, List.getElem_cons_zero, Act.put, List.setIfInBounds_toArray, List.set_cons_zero, List.set_cons_succ]
      refine wpAnyH_take (i := 14) (v := ?_) rfl (by kernel_rfl) (by kernel_rfl) (by kernel_rfl) (fun _ _ _ h => h) (Or.inl ⟨by rfl, ?_⟩) (by assumption) ?_
      rotate_left
      · (intro w hSw; (try dsimp only at hSw); go_simp; (try with_reducible rfl))
      try simp only [List.getElem_toArray, List.getElem_cons_succ, List.getElem_cons_zero, Act.put, List.setIfInBounds_toArray, List.set_cons_zero, List.set_cons_succ]
      refine wpAnyH_take (i := 15) (v := ?_) rfl (by kernel_rfl) (by kernel_rfl) (by kernel_rfl) (fun _ _ _ h => h) (Or.inl ⟨by rfl, ?_⟩) (by assumption) ?_
      rotate_left
      · (intro w hSw; (try dsimp only at hSw); go_simp; (try with_reducible rfl))
      try simp only [List.getElem_toArray, List.getElem_cons_succ, List.getElem_cons_zero, Act.put, List.setIfInBounds_toArray, List.set_cons_zero, List.set_cons_succ]
      refine wpAnyH_take (i := 16) (v := ?_) rfl (by kernel_rfl) (by kernel_rfl) (by kernel_rfl) (fun _ _ _ h => h) (Or.inl ⟨by rfl, ?_⟩) (by assumption) ?_
      rotate_left
      · (intro w hSw; (try dsimp only at hSw); go_simp; (try with_reducible rfl))
      try simp only [List.getElem_toArray, List.getElem_cons_succ, List.getElem_cons_zero, Act.put, List.setIfInBounds_toArray, List.set_cons_zero, List.set_cons_succ]
      refine wpAnyH_take (i := 17) (v := ?_) rfl (by kernel_rfl) (by kernel_rfl) (by kernel_rfl) (fun _ _ _ h => h) (Or.inl ⟨by rfl, ?_⟩) (by assumption) ?_
      rotate_left
      · (intro w hSw; (try dsimp only at hSw); go_simp; (try with_reducible rfl))
      try simp only [List.getElem_toArray, List.getElem_cons_succ, List.getElem_cons_zero, Act.put, List.setIfInBounds_toArray, List.set_cons_zero, List.set_cons_succ]
      refine wpAnyH_take (i := 18) (v := ?_) rfl (by kernel_rfl) (by kernel_rfl) (by kernel_rfl) (fun _ _ _ h => h) (Or.inl ⟨by rfl, ?_⟩) (by assumption) ?_
      rotate_left
      · (intro w hSw; (try dsimp only at hSw); go_simp; (try with_reducible rfl))
      try simp only [List.getElem_toArray, List.getElem_cons_succ, List.getElem_cons_zero, Act.put, List.setIfInBounds_toArray, List.set_cons_zero, List.set_cons_succ]
      refine wpAnyH_take (i := 19) (v := ?_) rfl (by kernel_rfl) (by kernel_rfl) (by kernel_rfl) (fun _ _ _ h => h) (Or.inl ⟨by rfl, ?_⟩) (by assumption) ?_
      rotate_left
      · (intro w hSw; (try dsimp only at hSw); go_simp; (try with_reducible rfl))
      try simp only [List.getElem_toArray, List.getElem_cons_succ, List.getElem_cons_zero, Act.put, List.setIfInBounds_toArray, List.set_cons_zero, List.set_cons_succ]
      refine wpAnyH_take (i := 20) (v := ?_) rfl (by kernel_rfl) (by kernel_rfl) (by kernel_rfl) (fun _ _ _ h => h) (Or.inl ⟨by rfl, ?_⟩) (by assumption) ?_
      rotate_left
      · (intro w hSw; (try dsimp only at hSw); go_simp; (try with_reducible rfl))
      try simp only [List.getElem_toArray, List.getElem_cons_succ, List.getElem_cons_zero, Act.put, List.setIfInBounds_toArray, List.set_cons_zero, List.set_cons_succ]
      refine wpAnyH_take (i := 21) (v := ?_) rfl (by kernel_rfl) (by kernel_rfl) (by kernel_rfl) (fun _ _ _ h => h) (Or.inl ⟨by rfl, ?_⟩) (by assumption) ?_
      rotate_left
      · (intro w hSw; (try dsimp only at hSw); go_simp; (try with_reducible rfl))
      try simp only [List.getElem_toArray, List.getElem_cons_succ, List.getElem_cons_zero, Act.put, List.setIfInBounds_toArray, List.set_cons_zero, List.set_cons_succ]
      refine wpAnyH_take (i := 22) (v := ?_) rfl (by kernel_rfl) (by kernel_rfl) (by kernel_rfl) (fun _ _ _ h => h) (Or.inl ⟨by rfl, ?_⟩) (by assumption) ?_
      rotate_left
      · (intro w hSw; (try dsimp only at hSw); go_simp; (try with_reducible rfl))
      try simp only [List.getElem_toArray, List.getElem_cons_succ, List.getElem_cons_zero, Act.put, List.setIfInBounds_toArray, List.set_cons_zero, List.set_cons_succ]
      refine wpAnyH_take (i := 23) (v := ?_) rfl (by kernel_rfl) (by kernel_rfl) (by kernel_rfl) (fun _ _ _ h => h) (Or.inl ⟨by rfl, ?_⟩) (by assumption) ?_
      rotate_left
      · (intro w hSw; (try dsimp only at hSw); go_simp; (try with_reducible rfl))
      try simp only [List.getElem_toArray, List.getElem_cons_succ, List.getElem_cons_zero, Act.put, List.setIfInBounds_toArray, List.set_cons_zero, List.set_cons_succ]
      refine wpAnyH_take (i := 24) (v := ?_) rfl (by kernel_rfl) (by kernel_rfl) (by kernel_rfl) (fun _ _ _ h => h) (Or.inl ⟨by rfl, ?_⟩) (by assumption) ?_
      rotate_left
      · (intro w hSw; (try dsimp only at hSw); go_simp; (try with_reducible rfl))
      try simp only [List.getElem_toArray, List.getElem_cons_succ, List.getElem_cons_zero, Act.put, List.setIfInBounds_toArray, List.set_cons_zero, List.set_cons_succ]
      refine wpAnyH_take (i := 25) (v := ?_) rfl (by kernel_rfl) (by kernel_rfl) (by kernel_rfl) (fun _ _ _ h => h) (Or.inl ⟨by rfl, ?_⟩) (by assumption) ?_
      rotate_left
      · (intro w hSw; (try dsimp only at hSw); go_simp; (try with_reducible rfl))
      try simp only [List.getElem_toArray, List.getElem_cons_succ, List.getElem_cons_zero, Act.put, List.setIfInBounds_toArray, List.set_cons_zero, List.set_cons_succ]
      refine wpAnyH_take (i := 26) (v := ?_) rfl (by kernel_rfl) (by kernel_rfl) (by kernel_rfl) (fun _ _ _ h => h) (Or.inl ⟨by rfl, ?_⟩) (by assumption) ?_
      rotate_left
      · (intro w hSw; (try dsimp only at hSw); go_simp; (try with_reducible rfl))
      try simp only [List.getElem_toArray, List.getElem_cons_succ, List.getElem_cons_zero, Act.put, List.setIfInBounds_toArray, List.set_cons_zero, List.set_cons_succ]
      refine wpAnyH_take (i := 27) (v := ?_) rfl (by kernel_rfl) (by kernel_rfl) (by kernel_rfl) (fun _ _ _ h => h) (Or.inl ⟨by rfl, ?_⟩) (by assumption) ?_
      rotate_left
      · (intro w hSw; (try dsimp only at hSw); go_simp; (try with_reducible rfl))
      try simp only [List.getElem_toArray, List.getElem_cons_succ, List.getElem_cons_zero, Act.put, List.setIfInBounds_toArray, List.set_cons_zero, List.set_cons_succ]
      refine wpAnyH_take (i := 28) (v := ?_) rfl (by kernel_rfl) (by kernel_rfl) (by kernel_rfl) (fun _ _ _ h => h) (Or.inl ⟨by rfl, ?_⟩) (by assumption) ?_
      rotate_left
      · (intro w hSw; (try dsimp only at hSw); go_simp; (try with_reducible rfl))
      try simp only [List.getElem_toArray, List.getElem_cons_succ, List.getElem_cons_zero, Act.put, List.setIfInBounds_toArray, List.set_cons_zero, List.set_cons_succ]
      refine wpAnyH_take (i := 29) (v := ?_) rfl (by kernel_rfl) (by kernel_rfl) (by kernel_rfl) (fun _ _ _ h => h) (Or.inl ⟨by rfl, ?_⟩) (by assumption) ?_
      rotate_left
      · (intro w hSw; (try dsimp only at hSw); go_simp; (try with_reducible rfl))
      try simp only [List.getElem_toArray, List.getElem_cons_succ, List.getElem_cons_zero, Act.put, List.setIfInBounds_toArray, List.set_cons_zero, List.set_cons_succ]
      refine wpAnyH_take (i := 30) (v := ?_) rfl (by kernel_rfl) (by kernel_rfl) (by kernel_rfl) (fun _ _ _ h => h) (Or.inl ⟨by rfl, ?_⟩) (by assumption) ?_
      rotate_left
      · (intro w hSw; (try dsimp only at hSw); go_simp; (try with_reducible rfl))
      try simp only [List.getElem_toArray, List.getElem_cons_succ, List.getElem_cons_zero, Act.put, List.setIfInBounds_toArray, List.set_cons_zero, List.set_cons_succ]
      refine wpAnyH_take (i := 31) (v := ?_) rfl (by kernel_rfl) (by kernel_rfl) (by kernel_rfl) (fun _ _ _ h => h) (Or.inl ⟨by rfl, ?_⟩) (by assumption) ?_
      rotate_left
      · (intro w hSw; (try dsimp only at hSw); go_simp; (try with_reducible rfl))
      try simp only [List.getElem_toArray, List.getElem_cons_succ, List.getElem_cons_zero, Act.put, List.setIfInBounds_toArray, List.set_cons_zero, List.set_cons_succ]
      refine wpAnyH_take (i := 32) (v := ?_) rfl (by kernel_rfl) (by kernel_rfl) (by kernel_rfl) (fun _ _ _ h => h) (Or.inl ⟨by rfl, ?_⟩) (by assumption) ?_
      rotate_left
      · (intro w hSw; (try dsimp only at hSw); go_simp; (try with_reducible rfl))
      try simp only [List.getElem_toArray, List.getElem_cons_succ, List.getElem_cons_zero, Act.put, List.setIfInBounds_toArray, List.set_cons_zero, List.set_cons_succ]
      refine wpAnyH_take (i := 33) (v := ?_) rfl (by kernel_rfl) (by kernel_rfl) (by kernel_rfl) (fun _ _ _ h => h) (Or.inl ⟨by rfl, ?_⟩) (by assumption) ?_
      rotate_left
      · (intro w hSw; (try dsimp only at hSw); go_simp; (try with_reducible rfl))
      try simp only [List.getElem_toArray, List.getElem_cons_succ, List.getElem_cons_zero, Act.put, List.setIfInBounds_toArray, List.set_cons_zero, List.set_cons_succ]
      refine wpAnyH_take (i := 34) (v := ?_) rfl (by kernel_rfl) (by kernel_rfl) (by kernel_rfl) (fun _ _ _ h => h) (Or.inl ⟨by rfl, ?_⟩) (by assumption) ?_
      rotate_left
      · (intro w hSw; (try dsimp only at hSw); go_simp; (try with_reducible rfl))
      try simp only [List.getElem_toArray, List.getElem_cons_succ, List.getElem_cons_zero, Act.put, List.setIfInBounds_toArray, List.set_cons_zero, List.set_cons_succ]
      refine wpAnyH_take (i := 35) (v := ?_) rfl (by kernel_rfl) (by kernel_rfl) (by kernel_rfl) (fun _ _ _ h => h) (Or.inl ⟨by rfl, ?_⟩) (by assumption) ?_
      rotate_left
      · (intro w hSw; (try dsimp only at hSw); go_simp; (try with_reducible rfl))
      try simp only [List.getElem_toArray, List.getElem_cons_succ, List.getElem_cons_zero, Act.put, List.setIfInBounds_toArray, List.set_cons_zero, List.set_cons_succ]
      refine wpAnyH_take (i := 36) (v := ?_) rfl (by kernel_rfl) (by kernel_rfl) (by kernel_rfl) (fun _ _ _ h => h) (Or.inl ⟨by rfl, ?_⟩) (by assumption) ?_
      rotate_left
      · (intro w hSw; (try dsimp only at hSw); go_simp; (try with_reducible rfl))
      try simp only [List.getElem_toArray, List.getElem_cons_succ, List.getElem_cons_zero, Act.put, List.setIfInBounds_toArray, List.set_cons_zero, List.set_cons_succ]
      refine wpAnyH_take (i := 37) (v := ?_) rfl (by kernel_rfl) (by kernel_rfl) (by kernel_rfl) (fun _ _ _ h => h) (Or.inl ⟨by rfl, ?_⟩) (by assumption) ?_
      rotate_left
      · (intro w hSw; (try dsimp only at hSw); go_simp; (try with_reducible rfl))
      try simp only [List.getElem_toArray, List.getElem_cons_succ, List.getElem_cons_zero, Act.put, List.setIfInBounds_toArray, List.set_cons_zero, List.set_cons_succ]
      refine wpAnyH_take (i := 38) (v := ?_) rfl (by kernel_rfl) (by kernel_rfl) (by kernel_rfl) (fun _ _ _ h => h) (Or.inl ⟨by rfl, ?_⟩) (by assumption) ?_
      rotate_left
      · (intro w hSw; (try dsimp only at hSw); go_simp; (try with_reducible rfl))
      try simp only [List.getElem_toArray, List.getElem_cons_succ, List.getElem_cons_zero, Act.put, List.setIfInBounds_toArray, List.set_cons_zero, List.set_cons_succ]
      refine wpAnyH_take (i := 39) (v := ?_) rfl (by kernel_rfl) (by kernel_rfl) (by kernel_rfl) (fun _ _ _ h => h) (Or.inl ⟨by rfl, ?_⟩) (by assumption) ?_
      rotate_left
      · (intro w hSw; (try dsimp only at hSw); go_simp; (try with_reducible rfl))
      try simp only [List.getElem_toArray, List.getElem_cons_succ, List.getElem_cons_zero, Act.put, List.setIfInBounds_toArray, List.set_cons_zero, List.set_cons_succ]
      refine wpAnyH_take (i := 40) (v := ?_) rfl (by kernel_rfl) (by kernel_rfl) (by kernel_rfl) (fun _ _ _ h => h) (Or.inl ⟨by rfl, ?_⟩) (by assumption) ?_
      rotate_left
      · (intro w hSw; (try dsimp only at hSw); go_simp; (try with_reducible rfl))
      try simp only [List.getElem_toArray, List.getElem_cons_succ, List.getElem_cons_zero, Act.put, List.setIfInBounds_toArray, List.set_cons_zero, List.set_cons_succ]
      refine wpAnyH_take (i := 41) (v := ?_) rfl (by kernel_rfl) (by kernel_rfl) (by kernel_rfl) (fun _ _ _ h => h) (Or.inl ⟨by rfl, ?_⟩) (by assumption) ?_
      rotate_left
      · (intro w hSw; (try dsimp only at hSw); go_simp; (try with_reducible rfl))
      try simp only [List.getElem_toArray, List.getElem_cons_succ, List.getElem_cons_zero, Act.put, List.setIfInBounds_toArray, List.set_cons_zero, List.set_cons_succ]
      refine wpAnyH_take (i := 42) (v := ?_) rfl (by kernel_rfl) (by kernel_rfl) (by kernel_rfl) (fun _ _ _ h => h) (Or.inl ⟨by rfl, ?_⟩) (by assumption) ?_
      rotate_left
      · (intro w hSw; (try dsimp only at hSw); go_simp; (try with_reducible rfl))
      try simp only [List.getElem_toArray, List.getElem_cons_succ, List.getElem_cons_zero, Act.put, List.setIfInBounds_toArray, List.set_cons_zero, List.set_cons_succ]
      refine wpAnyH_take (i := 43) (v := ?_) rfl (by kernel_rfl) (by kernel_rfl) (by kernel_rfl) (fun _ _ _ h => h) (Or.inl ⟨by rfl, ?_⟩) (by assumption) ?_
      rotate_left
      · (intro w hSw; (try dsimp only at hSw); go_simp; (try with_reducible rfl))
      try simp only [List.getElem_toArray, List.getElem_cons_succ, List.getElem_cons_zero, Act.put, List.setIfInBounds_toArray, List.set_cons_zero, List.set_cons_succ]
      refine wpAnyH_take (i := 44) (v := ?_) rfl (by kernel_rfl) (by kernel_rfl) (by kernel_rfl) (fun _ _ _ h => h) (Or.inl ⟨by rfl, ?_⟩) (by assumption) ?_
      rotate_left
      · (intro w hSw; (try dsimp only at hSw); go_simp; (try with_reducible rfl))
      try simp only [List.getElem_toArray, List.getElem_cons_succ, List.getElem_cons_zero, Act.put, List.setIfInBounds_toArray, List.set_cons_zero, List.set_cons_succ]
      refine wpAnyH_take (i := 45) (v := ?_) rfl (by kernel_rfl) (by kernel_rfl) (by kernel_rfl) (fun _ _ _ h => h) (Or.inl ⟨by rfl, ?_⟩) (by assumption) ?_
      rotate_left
      · (intro w hSw; (try dsimp only at hSw); go_simp; (try with_reducible rfl))
      try simp only [List.getElem_toArray, List.getElem_cons_succ, List.getElem_cons_zero, Act.put, List.setIfInBounds_toArray, List.set_cons_zero, List.set_cons_succ]
      refine wpAnyH_take (i := 46) (v := ?_) rfl (by kernel_rfl) (by kernel_rfl) (by kernel_rfl) (fun _ _ _ h => h) (Or.inl ⟨by rfl, ?_⟩) (by assumption) ?_
      rotate_left
      · (intro w hSw; (try dsimp only at hSw); go_simp; (try with_reducible rfl))
      try simp only [List.getElem_toArray, List.getElem_cons_succ, List.getElem_cons_zero, Act.put, List.setIfInBounds_toArray, List.set_cons_zero, List.set_cons_succ]
      refine wpAnyH_take (i := 47) (v := ?_) rfl (by kernel_rfl) (by kernel_rfl) (by kernel_rfl) (fun _ _ _ h => h) (Or.inl ⟨by rfl, ?_⟩) (by assumption) ?_
      rotate_left
      · (intro w hSw; (try dsimp only at hSw); go_simp; (try with_reducible rfl))
      try simp only [List.getElem_toArray, List.getElem_cons_succ, List.getElem_cons_zero, Act.put, List.setIfInBounds_toArray, List.set_cons_zero, List.set_cons_succ]
      refine wpAnyH_done (by kernel_rfl) ?_ _
      clear hHeld eq1
      go_wp2_with fail
      go_ret
      exact ⟨rfl, HSZ.out.below⟩


end Go.Proofs.YthihjhidjnadaaaGreat.fnCyclesOfStates
