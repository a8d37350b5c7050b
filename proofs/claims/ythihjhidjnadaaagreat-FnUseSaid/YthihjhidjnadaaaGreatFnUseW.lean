/-
  The walk of laws.FnUse: at every input it returns true and writes nothing that was there.
-/
import Derived.Test.YthihjhidjnadaaaGreatRows
import Derived.Test.YthihjhidjnadaaaGreatP21A
import Derived.Test.YthihjhidjnadaaaGreatP21N
import Derived.Test.YthihjhidjnadaaaGreatP21M
import Derived.Test.YthihjhidjnadaaaGreatP21E
import Derived.Test.YthihjhidjnadaaaGreatP21S
import Derived.Test.YthihjhidjnadaaaGreatP21L
import Derived.Test.YthihjhidjnadaaaGreatP21Z
import Derived.Test.YthihjhidjnadaaaGreatP21I
import Derived.Test.YthihjhidjnadaaaGreatP21T
import Derived.Test.YthihjhidjnadaaaGreatP21C
import Derived.Test.YthihjhidjnadaaaGreatP21D
import Derived.Test.YthihjhidjnadaaaGreatP21K
import Derived.Test.YthihjhidjnadaaaGreatP21G
import Derived.Test.YthihjhidjnadaaaGreatP21U
import Derived.Test.YthihjhidjnadaaaGreatP21X
import Derived.Test.YthihjhidjnadaaaGreatP21F
import Derived.Test.YthihjhidjnadaaaGreatP21V
import Derived.Test.YthihjhidjnadaaaGreatP21O
import Derived.Test.YthihjhidjnadaaaGreatP21H
import Derived.Test.YthihjhidjnadaaaGreatP21B
import Derived.WalkKit
import Derived.ProofKit
import Derived.OpenShut
import Derived.ShutString
import Derived.ChangeOld
import Derived.Below
namespace Go.Proofs.YthihjhidjnadaaaGreat.fnUse
open Go.ChangeShapes Go.WideShapes Go.ChangeAt Go.RowKit
open Go.ChangeMaps (open_string shut_string)
set_option linter.unusedVariables false


/-- WHAT THE WALK IS TOLD OF A SLICE OF INTEGERS THAT CAME IN: it is nil; or it leads to a row of 'cap' cells, the numbers 'zs' (the first 'len' are its elements, the rest its spare room), each fitting its kind. -/
def IsRow (k : IntKind) (w : World) (a : Option Addr) (len cap : Nat) (zs : List Int) : Prop :=
  (a = none ∧ len = 0 ∧ cap = 0 ∧ zs = []) ∨
  ∃ x, a = some x ∧ len ≤ cap ∧ cap ≤ maxLen ∧ zs.length = cap ∧ (∀ i, i < zs.length → w.cell? (x.add i) = some (.int k (zs.getD i 0))) ∧ ∀ n ∈ zs, (Lit.int k n).wf = true

/-! ### STEP 1: THE WALK: the Go text returns true, AND WRITES NOTHING THAT WAS THERE: 'Below w.heap.size w w'' (Derived/Below.lean: '.refl', '.alloc', '.drew', '.setCell' at a new block, '.trans'). Open each 'IsRow' by 'rcases' AHEAD of 'go_enter'; part every test ahead of the walk. -/
set_option linter.unusedSimpArgs false in
set_option linter.unusedVariables false in
set_option maxRecDepth 100000 in
set_option maxHeartbeats 4000000 in
theorem walk (a0 : Option Addr) (len0 cap0 : Nat) (z0 : List Int) (w : World) (w0 : IsRow .u8 w a0 len0 cap0 z0) :
    Calls Tryz.prog 6 #[.slice a0 len0 cap0] w fun e w' => e = .returned (.bool true) ∧ Below w.heap.size w w' := by
  have hr := rdB_of_row w0
  clear w0
  generalize List.take len0 z0 = xs0 at hr
  have HR := Lib.hid hr; clear hr
  by_cases hbig : len0 ≤ 4096
  rotate_left
  · go_enter Tryz.func6, Tryz.ntmps6
    go_wp2_with fail
    refine (big_yes _ _ _ _ hbig).mono ?_
    rintro e w' ⟨rfl, rfl⟩
    go_wp2
    go_ret
    exact ⟨rfl, Below.refl _ _⟩
  go_enter Tryz.func6, Tryz.ntmps6
  go_wp2_with fail
  refine (big_no _ _ _ _ hbig).mono ?_
  rintro e w' ⟨rfl, rfl⟩
  go_wp2_with fail
  refine (drawUseOf_any _ _ _ xs0 _ HR.out (by omega)).mono ?_
  rintro e w1 ⟨v, k, rfl, hlo, han, b1⟩
  have HRD := Lib.hid (fun W (hW : Below w1.heap.size w1 W) => (hlo.rd han).below hW)
  have HB1 := Lib.hid b1
  have HX1 := Lib.hid (Bk.start (T := 28) w1 v)
  obtain ⟨u, q, hU⟩ : ∃ t q, useOf v.me k = (t, q) := ⟨_, _, rfl⟩
  obtain ⟨s, c1, hS⟩ : ∃ t q, slackOf v.me k = (t, q) := ⟨_, _, rfl⟩
  obtain ⟨cy, c3, hF3⟩ : ∃ t q, cycleTime v.me k = (t, q) := ⟨_, _, rfl⟩
  have HUI := Lib.hid (fun W (hW : Below w1.heap.size w1 W) => (show Calls Tryz.prog 45 #[mvVal v, .int .i64 k] W fun e w' => e = .returned (.tuple #[.int .i64 u, .int .i64 q]) ∧ Below W.heap.size W w' from by have h := useOf_any v k W (HRD.out W hW); rwa [hU] at h))
  have HUS := Lib.hid (fun W (hW : Below w1.heap.size w1 W) => (show Calls Tryz.prog 46 #[mvVal v, .int .i64 k] W fun e w' => e = .returned (.tuple #[.int .i64 u, .int .i64 q]) ∧ Below W.heap.size W w' from by have h := sUseOf_any v k W (HRD.out W hW); rwa [hU] at h))
  have HSI := Lib.hid (fun W (hW : Below w1.heap.size w1 W) => (show Calls Tryz.prog 47 #[mvVal v, .int .i64 k] W fun e w' => e = .returned (.tuple #[.int .i64 s, .int .i64 c1]) ∧ Below W.heap.size W w' from by have h := slackOf_any v k W (HRD.out W hW); rwa [hS] at h))
  have HSS := Lib.hid (fun W (hW : Below w1.heap.size w1 W) => (show Calls Tryz.prog 48 #[mvVal v, .int .i64 k] W fun e w' => e = .returned (.tuple #[.int .i64 s, .int .i64 c1]) ∧ Below W.heap.size W w' from by have h := sSlackOf_any v k W (HRD.out W hW); rwa [hS] at h))
  have HCY := Lib.hid (fun W (hW : Below w1.heap.size w1 W) => (show Calls Tryz.prog 23 #[mvVal v, .int .i64 k] W fun e w' => e = .returned (.tuple #[.int .i64 cy, .int .i64 c3]) ∧ Below W.heap.size W w' from by have h := cycleTime_any v k W (HRD.out W hW); rwa [hF3] at h))
  have HLAW := Lib.hid (fun (h0 : q = 0) => by
    have h := use_law (m := v.me) (k := k) (u := u) (by rw [hU, h0])
    rw [hS, hF3] at h
    exact h)
  have huu : (u != u) = false := bne_self_eq_false _
  have hqq : (q != q) = false := bne_self_eq_false _
  have hss : (s != s) = false := bne_self_eq_false _
  have h12 : (c1 != c1) = false := bne_self_eq_false _
  clear hlo han b1 hU hS hF3
  unfold mvVal at HUI HUS HSI HSS HCY ⊢
  go_upto_region 4 with fail
  generalize w1.alloc (.cells #[.int .i64 v.id, .slice v.no v.n.length v.nc, .slice v.mo v.cs.length v.mc, .slice v.eo v.e.length v.ec] 28) = wx at HX1 ⊢
  obtain ⟨z0, z1, z2, z3⟩ := HX1.out.at_.all
  go_wp2_with fail
  refine (HUI.out _ HX1.out.below).mono ?_
  rintro e wy1 ⟨rfl, b⟩
  have HX2 := Lib.hid (HX1.out.call b)
  clear z0 z1 z2 z3 b HX1
  obtain ⟨z0, z1, z2, z3⟩ := HX2.out.at_.all
  go_wp2_with fail
  refine (HUS.out _ HX2.out.below).mono ?_
  rintro e wy2 ⟨rfl, b⟩
  have HX3 := Lib.hid (HX2.out.call b)
  clear z0 z1 z2 z3 b HX2
  obtain ⟨z0, z1, z2, z3⟩ := HX3.out.at_.all
  go_wp2_with fail
  refine (HSI.out _ HX3.out.below).mono ?_
  rintro e wy3 ⟨rfl, b⟩
  have HX4 := Lib.hid (HX3.out.call b)
  clear z0 z1 z2 z3 b HX3
  obtain ⟨z0, z1, z2, z3⟩ := HX4.out.at_.all
  go_wp2_with fail
  refine (HSS.out _ HX4.out.below).mono ?_
  rintro e wy4 ⟨rfl, b⟩
  have HX5 := Lib.hid (HX4.out.call b)
  clear z0 z1 z2 z3 b HX4
  have HRB := Lib.hid (rdB_later HR.out (below_two HB1.out HX5.out.below))
  go_wp2_with fail
  refine (drawPayloadOf_any _ _ _ xs0 _ HRB.out (by omega)).mono ?_
  rintro e w2 ⟨y, id, nd, rfl, hlo, han, b⟩
  have HX6 := Lib.hid (HX5.out.call b)
  have HRY := Lib.hid (fun W (hW : Below w2.heap.size w2 W) => (hlo.rd han).below hW)
  obtain ⟨pp, c4, hP⟩ : ∃ t q, payloadOf y.me id nd = (t, q) := ⟨_, _, rfl⟩
  have HPI := Lib.hid (fun W (hW : Below w2.heap.size w2 W) => (show Calls Tryz.prog 50 #[mvVal y, .int .i64 id, .int .i64 nd] W fun e w' => e = .returned (.tuple #[.int .i64 pp, .int .i64 c4]) ∧ Below W.heap.size W w' from by have h := payloadOf_any y id nd W (HRY.out W hW); rwa [hP] at h))
  have HPS := Lib.hid (fun W (hW : Below w2.heap.size w2 W) => (show Calls Tryz.prog 51 #[mvVal y, .int .i64 id, .int .i64 nd] W fun e w' => e = .returned (.tuple #[.int .i64 pp, .int .i64 c4]) ∧ Below W.heap.size W w' from by have h := sPayloadOf_any y id nd W (HRY.out W hW); rwa [hP] at h))
  have hpp : (pp != pp) = false := bne_self_eq_false _
  have h44 : (c4 != c4) = false := bne_self_eq_false _
  have HY1 := Lib.hid (Bk.start (T := 28) w2 y)
  have bal := (Below.refl w2.heap.size w2).alloc (Nat.le_refl _) (.cells #[.int .i64 y.id, .slice y.no y.n.length y.nc, .slice y.mo y.cs.length y.mc, .slice y.eo y.e.length y.ec] 28)
  have HX7 := Lib.hid (HX6.out.call bal)
  clear hlo han b hP HR HRB HX5 HX6 bal
  unfold mvVal at HPI HPS ⊢
  go_upto_region 9 with fail
  generalize w2.alloc (.cells #[.int .i64 y.id, .slice y.no y.n.length y.nc, .slice y.mo y.cs.length y.mc, .slice y.eo y.e.length y.ec] 28) = wv at HX7 HY1 ⊢
  obtain ⟨z0, z1, z2, z3⟩ := HY1.out.at_.all
  go_wp2_with fail
  refine (HPI.out _ HY1.out.below).mono ?_
  rintro e wz7 ⟨rfl, b⟩
  have HX8 := Lib.hid (HX7.out.call b)
  have HY2 := Lib.hid (HY1.out.call b)
  clear z0 z1 z2 z3 b HX7 HY1
  obtain ⟨z0, z1, z2, z3⟩ := HY2.out.at_.all
  go_wp2_with fail
  refine (HPS.out _ HY2.out.below).mono ?_
  rintro e wz8 ⟨rfl, b⟩
  have HX9 := Lib.hid (HX8.out.call b)
  have HY3 := Lib.hid (HY2.out.call b)
  clear z0 z1 z2 z3 b HX8 HY2
  by_cases hq0 : q = 0
  rotate_left
  · have hqb : (q != 0) = true := by simp [hq0]
    clear HLAW hq0
    go_wp2_with fail
    go_ret
    exact ⟨rfl, below_two HB1.out HX9.out.below⟩
  obtain ⟨j, rfl, hj, W, hu, e1, e2, hd0, hl0⟩ := HLAW.out hq0
  obtain ⟨hs1, hc1⟩ := Prod.mk.inj e1
  obtain ⟨hcy, hc3⟩ := Prod.mk.inj e2
  rw [hc3] at HCY
  have hqb : (q != 0) = false := by simp [hq0]
  have HS := Lib.hid (fun k (hk : k < v.e.length) => cell_step (e := v.e) (j := j) hk)
  have HBD := Lib.hid (fun k => (show 0 ≤ cellSum (inMode (v.e.take k) j) ∧ cellSum (inMode (v.e.take k) j) ≤ 100000 from cell_bound W.r4 j k))
  have HFS := Lib.hid (fun k (hk : k < v.e.length) => found_step (e := v.e) (j := j) (s := s) hk)
  have HFE := Lib.hid (show foundTo v.e j s v.e.length = true from by rw [hs1]; exact found_end hl0)
  have HF0 := Lib.hid (found_zero v.e j s)
  have HSL := Lib.hid (fun k (hk : k < v.e.length) (hm : (slOf v.e k).mode = (j : Int)) => (show s ≤ pauseSl (slOf v.e k) from by rw [hs1]; exact slack_le hk hm))
  have HPA := Lib.hid (fun k (hk : k < v.e.length) => (show pauseOf (slOf v.e k).desc = (pauseSl (slOf v.e k), 0) from (pause_in W.r4 (show slOf v.e k ∈ v.me.slots from slOf_mem hk)).1))
  have HDE := Lib.hid (fun k (hk : k < v.e.length) => (show isDesc (slOf v.e k).desc = true from (sl_bounds W.r4 (show slOf v.e k ∈ v.me.slots from slOf_mem hk)).2.2.2))
  have h9 := HBD.out v.e.length
  have HE := Lib.hid (show u = (1000 * cellSum (inMode (v.e.take v.e.length) j)).tdiv cy from by rw [Int.tdiv_eq_ediv_of_nonneg (by omega), List.take_length, hu, hcy]; rfl)
  have H0 := Lib.hid (show cellSum (inMode (v.e.take 0) j) = 0 from rfl)
  have hcp : 0 < cy := by rw [hcy]; exact hd0
  have hel : v.e.length ≤ 120 := (isSls_iff.1 W.r4).1
  clear e1 e2 hc1 hc3 HLAW hcy hq0 hs1 hu hd0 hl0 hj W
  obtain ⟨F9, hF⟩ : ∃ F9 : Nat → Int, ∀ k, F9 k = cellSum (inMode (v.e.take k) j) := ⟨_, fun _ => rfl⟩
  simp only [← hF] at HS HBD H0 HE h9
  clear hF
  obtain ⟨G9, hG⟩ : ∃ G9 : Nat → Bool, ∀ k, G9 k = foundTo v.e j s k := ⟨_, fun _ => rfl⟩
  simp only [← hG] at HFS HFE HF0
  clear hG
  have hdz0 : ¬ cy = 0 := by omega
  have hcb : decide (cy > 0) = true := by simp [hcp]
  have hb1 := Int.tdiv_nonneg (a := 1000 * F9 v.e.length) (b := cy) (by omega) (by omega)
  have hb2 : (1000 * F9 v.e.length).tdiv cy ≤ 1000 * F9 v.e.length := by rw [Int.tdiv_eq_ediv_of_nonneg (by omega)]; exact Int.ediv_le_self _ (by omega)
  have HW1 := Lib.hid (show IntKind.i64.wrap (1000 * F9 v.e.length) = 1000 * F9 v.e.length from by rw [IntKind.wrap_i64]; omega)
  have HW2 := Lib.hid (show IntKind.i64.wrap ((1000 * F9 v.e.length).tdiv cy) = (1000 * F9 v.e.length).tdiv cy from by rw [IntKind.wrap_i64]; omega)
  have HDZ := Lib.hid hdz0; have HCP := Lib.hid hcp
  clear hb1 hb2 h9 hdz0 hcp hcb
  go_wp2_with fail
  obtain ⟨m0, hm0⟩ : ∃ m0, m0 = w1.heap.size := ⟨_, rfl⟩
  have HMX := Lib.hid (show MvAt 28 wz8 m0 v ∧ Below w1.heap.size w1 wz8 from ⟨hm0 ▸ HX9.out.at_, HX9.out.below⟩)
  rw [← hm0]
  clear hm0
  go_loopw [20, 21, 22] (fun cs fd i wr => ∃ i0 : Nat, i0 ≤ v.e.length ∧ i = .int .i64 i0 ∧ cs = .int .i64 (F9 i0) ∧ fd = .bool (G9 i0) ∧ Hid (MvAt 28 wr m0 v ∧ Below w1.heap.size w1 wr)) (fun _ _ i _ => v.e.length - (intOf i).toNat)
  case atStart => exact ⟨0, Nat.zero_le _, rfl, by rw [H0.out], by rw [HF0.out], HMX⟩
  case round =>
    clear HMX
    obtain ⟨i, hi, rfl, rfl, rfl, HB⟩ := hrel
    obtain ⟨q0, q1, q2, q3⟩ := HB.out.1.all
    by_cases hlt : i < v.e.length
    · have hlti : (i : Int) < (v.e.length : Int) := by omega
      obtain ⟨b, off, e0, hg, hx⟩ := (HRD.out _ HB.out.2).re.at hlt
      rw [e0] at q3
      have HN := Lib.hid (HS.out i hlt)
      have HGN := Lib.hid (HFS.out i hlt)
      have HSL2 := Lib.hid (HSL.out i hlt)
      have HPA2 := Lib.hid (HPA.out i hlt)
      have hde := HDE.out i hlt
      have h1 := HBD.out i
      have h2 := HBD.out (i + 1)
      have hxb : ∀ W, Below wr.heap.size wr W → SlIn W b (off + i * 8) (slOf v.e i) := fun W hW => hx.below hW hg
      have HXB := Lib.hid hxb
      clear hxb
      generalize F9 i = z at HN h1 ⊢
      generalize G9 i = gz at HGN ⊢
      generalize slOf v.e i = y9 at hx HN HGN HSL2 HPA2 hde HXB
      obtain ⟨ym, yr, ys, yn, yk, yz, yd, yc⟩ := y9
      obtain ⟨x0, x1, x2, x3, x4, x5, x6, x7⟩ := hx.all8
      (try dsimp only at x0 x1 x2 x3 x4 x5 x6 x7)
      replace HN : Hid (F9 (i + 1) = if ym = (j : Int) then z + cellsOf8 yk yz else z) := HN
      generalize hps : pauseSl ⟨ym, yr, ys, ⟨yn, yk, yz, yd, yc⟩⟩ = ps at HGN HSL2 HPA2
      clear hps
      replace HGN : Hid (G9 (i + 1) = if ym = (j : Int) then (gz || decide (ps = s)) else gz) := HGN
      replace HSL2 : Hid (ym = (j : Int) → s ≤ ps) := HSL2
      replace HPA2 : Hid (pauseOf ⟨yn, yk, yz, yd, yc⟩ = (ps, 0)) := HPA2
      replace hde : isDesc ⟨yn, yk, yz, yd, yc⟩ = true := hde
      by_cases hm : ym = (j : Int)
      rotate_left
      · have hmb : (ym != (j : Int)) = true := by simp [hm]
        have HN2 := Lib.hid (HN.out.trans (if_neg hm))
        have HGN2 := Lib.hid (HGN.out.trans (if_neg hm))
        clear HN HGN HSL2 HPA2 hde hm hx e0 HXB
        go_wp2_with fail
        clear x0 x1 x2 x3 x4 x5 x6 x7 q0 q1 q2 q3
        go_roundw
        case rel => exact ⟨i + 1, by omega, by go_num, by rw [HN2.out], by rw [HGN2.out], HB⟩
        case measure => simp [intOf]; omega
      · have hmb : (ym != (j : Int)) = false := by simp [hm]
        have HN2 := Lib.hid (HN.out.trans (if_pos hm))
        have HGN2 := Lib.hid (HGN.out.trans (if_pos hm))
        have hsl := HSL2.out hm
        rw [HN2.out] at h2
        have HCN := Lib.hid (fun W => (show Calls Tryz.prog 52 #[.int .i64 yk, .int .i64 yz] W fun e w' => e = .returned (.tuple #[.int .i64 (cellsOf8 yk yz), .int .i64 0]) ∧ Below W.heap.size W w' from by have h := cellsNeeded_any yk yz W; rwa [show cellsNeeded yk yz = (cellsOf8 yk yz, 0) from cells_ok hde] at h))
        have HPO := Lib.hid (fun W => (show Calls Tryz.prog 53 #[.agg #[.int .i64 yn, .int .i64 yk, .int .i64 yz, .int .i64 yd, .bool yc]] W fun e w' => e = .returned (.tuple #[.int .i64 ps, .int .i64 0]) ∧ Below W.heap.size W w' from by have h := pauseOf_any yn yk yz yd yc W; rwa [HPA2.out] at h))
        generalize cellsOf8 yk yz = cq at HN2 HCN h2
        have hww : IntKind.i64.wrap (z + cq) = z + cq := by rw [IntKind.wrap_i64]; omega
        have hpl : decide (ps < s) = false := by simp; omega
        clear HN HGN HSL2 HPA2 hde hm hx e0
        go_upto_region 20 with fail
        have HB2 := Lib.hid (show MvAt 28 wr.drew m0 v ∧ Below w1.heap.size w1 wr.drew from ⟨HB.out.1.below (Below.drew (Below.refl _ _)) HB.out.1.lt, Below.drew HB.out.2⟩)
        have HXB2 := Lib.hid (fun W (hW : Below wr.drew.heap.size wr.drew W) => HXB.out W ((Below.drew (Below.refl wr.heap.size wr)).trans hW))
        have hq : wr.drew.cell? ⟨m0, 3, none⟩ = some (.slice (some ⟨b, off, none⟩) v.e.length v.ec) ∧ wr.drew.cell? ⟨b, off + i * 8 + 4, none⟩ = some (.int .i64 yk) ∧ wr.drew.cell? ⟨b, off + i * 8 + 5, none⟩ = some (.int .i64 yz) := ⟨q3, x4, x5⟩
        clear x0 x1 x2 x3 x4 x5 x6 x7 q0 q1 q2 HB HXB
        have HQ3 := Lib.hid (fun W (hW : Below wr.drew.heap.size wr.drew W) => (show W.cell? ⟨m0, 3, none⟩ = some (.slice (some ⟨b, off, none⟩) v.e.length v.ec) from (hW.cell (p := ⟨m0, 3, none⟩) (World.block_lt_of_cell? wr.drew _ hq.1)).trans hq.1))
        clear q3
        refine wp_region_held_drew (S := fun w' => w'.cell? ⟨m0, 3, none⟩ = some (.slice (some ⟨b, off, none⟩) v.e.length v.ec) ∧ w'.cell? ⟨b, off + i * 8 + 4, none⟩ = some (.int .i64 yk) ∧ w'.cell? ⟨b, off + i * 8 + 5, none⟩ = some (.int .i64 yz)) (by kernel_rfl) (hq) (fun hHeld => ?_)
        generalize wr.drew = wd at HB2 HXB2 HQ3 hq hHeld ⊢
        refine wpAnyH_take (i := 0) (v := ?_) rfl (by kernel_rfl) (by kernel_rfl) (by kernel_rfl) (fun _ _ _ h => h) (Or.inl ⟨by rfl, ?_⟩) (by assumption) ?_
        rotate_left
        · (intro w hSw; (try dsimp only at hSw); go_simp; (try with_reducible rfl))
        try simp only [List.getElem_toArray, List.getElem_cons_succ, List.getElem_cons_zero, Act.put, List.setIfInBounds_toArray, List.set_cons_zero, List.set_cons_succ]
        refine wpAnyH_take (i := 1) (v := ?_) rfl (by kernel_rfl) (by kernel_rfl) (by kernel_rfl) (fun _ _ _ h => h) (Or.inl ⟨by rfl, ?_⟩) (by assumption) ?_
        rotate_left
        · (intro w hSw; (try dsimp only at hSw); go_simp; (try with_reducible rfl))
        try simp only [List.getElem_toArray, List.getElem_cons_succ, List.getElem_cons_zero, Act.put, List.setIfInBounds_toArray, List.set_cons_zero, List.set_cons_succ]
        refine wpAnyH_take (i := 2) (v := ?_) rfl (by kernel_rfl) (by kernel_rfl) (by kernel_rfl) (fun _ _ _ h => h) (Or.inl ⟨by rfl, ?_⟩) (by assumption) ?_
        rotate_left
        · (intro w hSw; (try dsimp only at hSw); go_simp; (try with_reducible rfl))
        try simp only [List.getElem_toArray, List.getElem_cons_succ, List.getElem_cons_zero, Act.put, List.setIfInBounds_toArray, List.set_cons_zero, List.set_cons_succ]
        refine wpAnyH_take (i := 3) (v := ?_) rfl (by kernel_rfl) (by kernel_rfl) (by kernel_rfl) (fun _ _ _ h => h) (Or.inl ⟨by rfl, ?_⟩) (by assumption) ?_
        rotate_left
        · (intro w hSw; (try dsimp only at hSw); go_simp; (try with_reducible rfl))
        try simp only [List.getElem_toArray, List.getElem_cons_succ, List.getElem_cons_zero, Act.put, List.setIfInBounds_toArray, List.set_cons_zero, List.set_cons_succ]
        refine wpAnyH_take (i := 4) (v := ?_) rfl (by kernel_rfl) (by kernel_rfl) (by kernel_rfl) (fun _ _ _ h => h) (Or.inl ⟨by rfl, ?_⟩) (by assumption) ?_
        rotate_left
        · (intro w hSw; (try dsimp only at hSw); go_simp; (try with_reducible rfl))
        try simp only [List.getElem_toArray, List.getElem_cons_succ, List.getElem_cons_zero, Act.put, List.setIfInBounds_toArray, List.set_cons_zero, List.set_cons_succ]
        refine wpAnyH_take (i := 5) (v := ?_) rfl (by kernel_rfl) (by kernel_rfl) (by kernel_rfl) (fun _ _ _ h => h) (Or.inl ⟨by rfl, ?_⟩) (by assumption) ?_
        rotate_left
        · (intro w hSw; (try dsimp only at hSw); go_simp; (try with_reducible rfl))
        try simp only [List.getElem_toArray, List.getElem_cons_succ, List.getElem_cons_zero, Act.put, List.setIfInBounds_toArray, List.set_cons_zero, List.set_cons_succ]
        refine wpAnyH_take (i := 6) (v := ?_) rfl (by kernel_rfl) (by kernel_rfl) (by kernel_rfl) (fun _ _ _ h => h) (Or.inl ⟨by rfl, ?_⟩) (by assumption) ?_
        rotate_left
        · (intro w hSw; (try dsimp only at hSw); go_simp; (try with_reducible rfl))
        try simp only [List.getElem_toArray, List.getElem_cons_succ, List.getElem_cons_zero, Act.put, List.setIfInBounds_toArray, List.set_cons_zero, List.set_cons_succ]
        refine wpAnyH_take (i := 7) (v := ?_) rfl (by kernel_rfl) (by kernel_rfl) (by kernel_rfl) (fun _ _ _ h => h) (Or.inl ⟨by rfl, ?_⟩) (by assumption) ?_
        rotate_left
        · (intro w hSw; (try dsimp only at hSw); go_simp; (try with_reducible rfl))
        try simp only [List.getElem_toArray, List.getElem_cons_succ, List.getElem_cons_zero, Act.put, List.setIfInBounds_toArray, List.set_cons_zero, List.set_cons_succ]
        refine wpAnyH_take (i := 8) (v := ?_) rfl (by kernel_rfl) (by kernel_rfl) (by kernel_rfl) (fun _ _ _ h => h) (Or.inl ⟨by rfl, ?_⟩) (by assumption) ?_
        rotate_left
        · (intro w hSw; (try dsimp only at hSw); go_simp; (try with_reducible rfl))
        try simp only [List.getElem_toArray, List.getElem_cons_succ, List.getElem_cons_zero, Act.put, List.setIfInBounds_toArray, List.set_cons_zero, List.set_cons_succ]
        refine wpAnyH_take (i := 9) (v := ?_) rfl (by kernel_rfl) (by kernel_rfl) (by kernel_rfl) (fun _ _ _ h => h) (Or.inl ⟨by rfl, ?_⟩) (by assumption) ?_
        rotate_left
        · (intro w hSw; (try dsimp only at hSw); go_simp; (try with_reducible rfl))
        try simp only [List.getElem_toArray, List.getElem_cons_succ, List.getElem_cons_zero, Act.put, List.setIfInBounds_toArray, List.set_cons_zero, List.set_cons_succ]
        refine wpAnyH_take (i := 10) (v := ?_) rfl (by kernel_rfl) (by kernel_rfl) (by kernel_rfl) (fun _ _ _ h => h) (Or.inl ⟨by rfl, ?_⟩) (by assumption) ?_
        rotate_left
        · (intro w hSw; (try dsimp only at hSw); go_simp; (try with_reducible rfl))
        try simp only [List.getElem_toArray, List.getElem_cons_succ, List.getElem_cons_zero, Act.put, List.setIfInBounds_toArray, List.set_cons_zero, List.set_cons_succ]
        refine wpAnyH_take (i := 11) (v := ?_) rfl (by kernel_rfl) (by kernel_rfl) (by kernel_rfl) (fun _ _ _ h => h) (Or.inl ⟨by rfl, ?_⟩) (by assumption) ?_
        rotate_left
        · (intro w hSw; (try dsimp only at hSw); go_simp; (try with_reducible rfl))
        try simp only [List.getElem_toArray, List.getElem_cons_succ, List.getElem_cons_zero, Act.put, List.setIfInBounds_toArray, List.set_cons_zero, List.set_cons_succ]
        refine wpAnyH_take (i := 12) (v := ?_) rfl (by kernel_rfl) (by kernel_rfl) (by kernel_rfl) (fun _ _ _ h => h) (Or.inl ⟨by rfl, ?_⟩) (by assumption) ?_
        rotate_left
        · (intro w hSw; (try dsimp only at hSw); go_simp; (try with_reducible rfl))
        try simp only [List.getElem_toArray, List.getElem_cons_succ, List.getElem_cons_zero, Act.put, List.setIfInBounds_toArray, List.set_cons_zero, List.set_cons_succ]
        refine wpAnyH_take (i := 13) (v := ?_) rfl (by kernel_rfl) (by kernel_rfl) (by kernel_rfl) (fun _ _ _ h => h) (Or.inl ⟨by rfl, ?_⟩) (by assumption) ?_
        rotate_left
        · (intro w hSw; (try dsimp only at hSw); go_simp; (try with_reducible rfl))
        try simp only [List.getElem_toArray, List.getElem_cons_succ, List.getElem_cons_zero, Act.put, List.setIfInBounds_toArray, List.set_cons_zero, List.set_cons_succ]
        refine wpAnyH_ready (rs := [14]) (by kernel_rfl) (by simp) (AllReadyH.cons rfl (fun K hK => ?_) AllReadyH.nil)
        go_simp
        refine (HCN.out wd).mono ?_
        rintro e w6 ⟨rfl, b6⟩
        have hxn := HXB2.out w6 b6
        have hqn : w6.cell? ⟨m0, 3, none⟩ = some (.slice (some ⟨b, off, none⟩) v.e.length v.ec) ∧ w6.cell? ⟨b, off + i * 8 + 4, none⟩ = some (.int .i64 yk) ∧ w6.cell? ⟨b, off + i * 8 + 5, none⟩ = some (.int .i64 yz) := ⟨HQ3.out w6 b6, hxn.c4, hxn.c5⟩
        have HB6 := Lib.hid (show MvAt 28 w6 m0 v ∧ Below w1.heap.size w1 w6 from ⟨HB2.out.1.below b6 HB2.out.1.lt, below_two HB2.out.2 b6⟩)
        have HXN := Lib.hid hxn
        clear b6 hq HB2 HXB2 HQ3 hxn
        go_wp2_with fail
        refine hK.out _ _ ?_ (fun hHeld => ?_)
        · exact hqn
        clear hK K
        try simp only [List.getElem_toArray, List.getElem_cons_succ, List.getElem_cons_zero, Act.put, List.setIfInBounds_toArray, List.set_cons_zero, List.set_cons_succ]
        refine wpAnyH_take (i := 15) (v := ?_) rfl (by kernel_rfl) (by kernel_rfl) (by kernel_rfl) (fun _ _ _ h => h) (Or.inl ⟨by rfl, ?_⟩) (by assumption) ?_
        rotate_left
        · (intro w hSw; (try dsimp only at hSw); go_simp; (try with_reducible rfl))
        try simp only [List.getElem_toArray, List.getElem_cons_succ, List.getElem_cons_zero, Act.put, List.setIfInBounds_toArray, List.set_cons_zero, List.set_cons_succ]
        refine wpAnyH_take (i := 16) (v := ?_) rfl (by kernel_rfl) (by kernel_rfl) (by kernel_rfl) (fun _ _ _ h => h) (Or.inl ⟨by rfl, ?_⟩) (by assumption) ?_
        rotate_left
        · (intro w hSw; (try dsimp only at hSw); go_simp; (try with_reducible rfl))
        try simp only [List.getElem_toArray, List.getElem_cons_succ, List.getElem_cons_zero, Act.put, List.setIfInBounds_toArray, List.set_cons_zero, List.set_cons_succ]
        refine wpAnyH_take (i := 17) (v := ?_) rfl (by kernel_rfl) (by kernel_rfl) (by kernel_rfl) (fun _ _ _ h => h) (Or.inl ⟨by rfl, ?_⟩) (by assumption) ?_
        rotate_left
        · (intro w hSw; (try dsimp only at hSw); go_simp; (try with_reducible rfl))
        try simp only [List.getElem_toArray, List.getElem_cons_succ, List.getElem_cons_zero, Act.put, List.setIfInBounds_toArray, List.set_cons_zero, List.set_cons_succ]
        refine wpAnyH_take (i := 18) (v := ?_) rfl (by kernel_rfl) (by kernel_rfl) (by kernel_rfl) (fun _ _ _ h => h) (Or.inl ⟨by rfl, ?_⟩) (by assumption) ?_
        rotate_left
        · (intro w hSw; (try dsimp only at hSw); go_simp; (try with_reducible rfl))
        try simp only [List.getElem_toArray, List.getElem_cons_succ, List.getElem_cons_zero, Act.put, List.setIfInBounds_toArray, List.set_cons_zero, List.set_cons_succ]
        refine wpAnyH_take (i := 19) (v := ?_) rfl (by kernel_rfl) (by kernel_rfl) (by kernel_rfl) (fun _ _ _ h => h) (Or.inl ⟨by rfl, ?_⟩) (by assumption) ?_
        rotate_left
        · (intro w hSw; (try dsimp only at hSw); go_simp; (try with_reducible rfl))
        try simp only [List.getElem_toArray, List.getElem_cons_succ, List.getElem_cons_zero, Act.put, List.setIfInBounds_toArray, List.set_cons_zero, List.set_cons_succ]
        refine wpAnyH_done (by kernel_rfl) ?_ _
        obtain ⟨q0, q1, q2, -⟩ := HB6.out.1.all
        have q3 := hqn.1
        clear hqn
        obtain ⟨x0, x1, x2, x3, x4, x5, x6, x7⟩ := HXN.out.all8
        (try dsimp only at x0 x1 x2 x3 x4 x5 x6 x7)
        go_wp2_with fail
        refine (HPO.out w6).mono ?_
        rintro e w7 ⟨rfl, b7⟩
        have HB7 := Lib.hid (show MvAt 28 w7 m0 v ∧ Below w1.heap.size w1 w7 from ⟨HB6.out.1.below b7 HB6.out.1.lt, below_two HB6.out.2 b7⟩)
        clear x0 x1 x2 x3 x4 x5 x6 x7 q0 q1 q2 q3 b7 HB6 HXN
        have hpe : (ps == s) = decide (ps = s) := rfl
        cases hgz : gz <;> rw [hgz] at HGN2
        all_goals go_wp2_with fail
        all_goals go_roundw
        all_goals first | exact ⟨i + 1, by omega, by go_num, by rw [HN2.out], by rw [HGN2.out]; rfl, HB7⟩ | (simp [intOf]; omega) | trace_state
    · have hkn : i = v.e.length := by omega
      subst hkn
      rw [HFE.out]
      have hw1 := HW1.out; have hdz0 := HDZ.out; have hw2 := HW2.out; have hcp := HCP.out
      go_wp2_with fail
      refine (HCY.out _ HB.out.2).mono ?_
      rintro e w6 ⟨rfl, b6⟩
      have HB6 := Lib.hid (below_two HB.out.2 b6)
      clear b6 q0 q1 q2 q3
      have hue : (u == (1000 * F9 v.e.length).tdiv cy) = true := by rw [← HE.out]; simp
      go_wp2_with fail
      go_ret
      exact ⟨rfl, below_two HB1.out HB6.out⟩


end Go.Proofs.YthihjhidjnadaaaGreat.fnUse
