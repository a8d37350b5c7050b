/-
  The walk of laws.FnSlotAt: at every input it returns true and writes nothing that was there.
-/
import Derived.Test.YtnbbbndfpehinaaGreatRows
import Derived.Test.YtnbbbndfpehinaaGreatP17A
import Derived.Test.YtnbbbndfpehinaaGreatP17N
import Derived.Test.YtnbbbndfpehinaaGreatP17M
import Derived.Test.YtnbbbndfpehinaaGreatP17E
import Derived.Test.YtnbbbndfpehinaaGreatP17S
import Derived.Test.YtnbbbndfpehinaaGreatP17L
import Derived.Test.YtnbbbndfpehinaaGreatP17Z
import Derived.Test.YtnbbbndfpehinaaGreatP17I
import Derived.Test.YtnbbbndfpehinaaGreatP17T
import Derived.Test.YtnbbbndfpehinaaGreatP17C
import Derived.Test.YtnbbbndfpehinaaGreatP17D
import Derived.Test.YtnbbbndfpehinaaGreatP17K
import Derived.Test.YtnbbbndfpehinaaGreatP17O
import Derived.Test.YtnbbbndfpehinaaGreatP17U
import Derived.Test.YtnbbbndfpehinaaGreatP17X
import Derived.Test.YtnbbbndfpehinaaGreatP17V
import Derived.Test.YtnbbbndfpehinaaGreatP17Y
import Derived.Test.YtnbbbndfpehinaaGreatP17G
import Derived.Test.YtnbbbndfpehinaaGreatP17Q
import Derived.WalkKit
import Derived.ProofKit
import Derived.OpenShut
import Derived.ShutString
import Derived.ChangeOld
import Derived.Below
namespace Go.Proofs.YtnbbbndfpehinaaGreat.fnSlotAt
open Go.ChangeShapes Go.WideShapes Go.ChangeAt Go.RowKit
open Go.ChangeMaps (open_string shut_string)
set_option linter.unusedVariables false


/-- WHAT THE WALK IS TOLD OF A SLICE OF INTEGERS THAT CAME IN: it is nil; or it leads to a row of 'cap' cells, the numbers 'zs' (the first 'len' are its elements, the rest its spare room), each fitting its kind. -/
def IsRow (k : IntKind) (w : World) (a : Option Addr) (len cap : Nat) (zs : List Int) : Prop :=
  (a = none ∧ len = 0 ∧ cap = 0 ∧ zs = []) ∨
  ∃ x, a = some x ∧ len ≤ cap ∧ cap ≤ maxLen ∧ zs.length = cap ∧ (∀ i, i < zs.length → w.cell? (x.add i) = some (.int k (zs.getD i 0))) ∧ ∀ n ∈ zs, (Lit.int k n).wf = true

/-! ### STEP 1: THE WALK: the Go text returns true, AND WRITES NOTHING THAT WAS THERE: 'Below w.heap.size w w'' (Derived/Below.lean: '.refl', '.alloc', '.drew', '.setCell' at a new block, '.trans'). Open each 'IsRow' by 'rcases' AHEAD of 'go_enter'; part every test ahead of the walk. -/
set_option linter.unusedSimpArgs false in
set_option maxRecDepth 100000 in
set_option maxHeartbeats 4000000 in
theorem walk (a0 : Option Addr) (len0 cap0 : Nat) (z0 : List Int) (w : World) (w0 : IsRow .u8 w a0 len0 cap0 z0) :
    Calls Tryz.prog 5 #[.slice a0 len0 cap0] w fun e w' => e = .returned (.bool true) ∧ Below w.heap.size w w' := by
  have hr := rdB_of_row w0
  clear w0
  generalize List.take len0 z0 = xs0 at hr
  have HR := Lib.hid hr; clear hr
  by_cases hbig : len0 ≤ 4096
  rotate_left
  · go_enter Tryz.func5, Tryz.ntmps5
    go_wp2_with fail
    refine (big_yes _ _ _ _ hbig).mono ?_
    rintro e w' ⟨rfl, rfl⟩
    go_wp2
    go_ret
    exact ⟨rfl, Below.refl _ _⟩
  go_enter Tryz.func5, Tryz.ntmps5
  go_wp2_with fail
  refine (big_no _ _ _ _ hbig).mono ?_
  rintro e w' ⟨rfl, rfl⟩
  go_wp2_with fail
  refine (drawSlotAt_any _ _ _ xs0 _ HR.out (by omega)).mono ?_
  rintro e w1 ⟨v, k, t, rfl, hrd, han, b1⟩
  obtain ⟨r, s, c, hC⟩ : ∃ r s c, slotAt v.me k t = (r, s, c) := ⟨_, _, _, rfl⟩
  have HI := Lib.hid (fun W (hW : RdMe W v) => (show Calls Tryz.prog 29 #[mvVal v, .int .i64 k, .int .i64 t] W fun e w' => e = .returned (.tuple #[.int .i64 r, .int .i64 s, .int .i64 c]) ∧ Below W.heap.size W w' from by have h := slotAt_any v k t W hW; rwa [hC] at h))
  have HJ := Lib.hid (fun W (hW : RdMe W v) => (show Calls Tryz.prog 33 #[mvVal v, .int .i64 k, .int .i64 t] W fun e w' => e = .returned (.tuple #[.int .i64 r, .int .i64 s, .int .i64 c]) ∧ Below W.heap.size W w' from by have h := sSlotAt_any v k t W hW; rwa [hC] at h))
  have HOK := Lib.hid (fun (h0 : c = 0) => slotAt_ok (m := v.me) (k := k) (t := t) (by rw [hC]; exact h0))
  have HAN := Lib.hid han
  have HS := Lib.hid ((Sh.start (T := 28) b1).push hrd)
  have hrr : (r != r) = false := bne_self_eq_false _
  have hss : (s != s) = false := bne_self_eq_false _
  have hcc : (c != c) = false := bne_self_eq_false _
  clear hrd han b1 hC
  unfold mvVal at HI HJ ⊢
  go_upto_region 4 with fail
  generalize w1.alloc (.cells #[.int .i64 v.id, .slice v.no v.n.length v.nc, .slice v.mo v.cs.length v.mc, .slice v.eo v.e.length v.ec] 28) = wx at HS ⊢
  generalize w1.heap.size = B3 at HS ⊢
  obtain ⟨z0, z1, z2, z3⟩ := (HS.out.b 0 rfl).all
  go_wp2_with fail
  refine (HI.out _ (HS.out.r 0 rfl)).mono ?_
  rintro e wa1 ⟨rfl, b⟩
  have HT := Lib.hid (HS.out.call b)
  clear HS
  have HS := HT
  clear HT
  clear z0 z1 z2 z3
  clear b HI
  obtain ⟨z0, z1, z2, z3⟩ := (HS.out.b 0 rfl).all
  go_wp2_with fail
  refine (HJ.out _ (HS.out.r 0 rfl)).mono ?_
  rintro e wa2 ⟨rfl, b⟩
  have HT := Lib.hid (HS.out.call b)
  clear HS
  have HS := HT
  clear HT
  clear z0 z1 z2 z3
  clear b HJ
  go_wp2_with fail
  refine (drawSendTimes_any _ _ _ xs0 _ (rdB_later HR.out HS.out.below) (by omega)).mono ?_
  rintro e w4 ⟨u, i, d, rfl, hrd, -, b⟩
  obtain ⟨q, c2, hF⟩ : ∃ q c2, sendTimes u.me i d = (q, c2) := ⟨_, _, rfl⟩
  have hF1 : (sendTimes u.me i d).1 = q := by rw [hF]
  have hlen : q.length ≤ 1048576 := by rw [← hF1]; exact sendTimes_len _ _ _
  have HCI := Lib.hid (fun W (hX : RdMe W u) => (show Calls Tryz.prog 30 #[mvVal u, .int .i64 i, .int .i64 d] W (Makes2 2 W q c2) from by have h := sendTimes_any u i d W hX; rwa [hF] at h))
  have HCS := Lib.hid (fun W (hX : RdMe W u) => (show Calls Tryz.prog 35 #[mvVal u, .int .i64 i, .int .i64 d] W (Makes2 2 W q c2) from by have h := sSendTimes_any u i d W hX; rwa [hF] at h))
  have hc2 : (c2 != c2) = false := bne_self_eq_false _
  have HT := Lib.hid ((HS.out.call b).push hrd)
  clear HS
  have HS := HT
  clear HT
  clear hrd b hF hF1 HR
  unfold mvVal at HCI HCS ⊢
  go_upto_region 7 with fail
  generalize w4.alloc (.cells #[.int .i64 u.id, .slice u.no u.n.length u.nc, .slice u.mo u.cs.length u.mc, .slice u.eo u.e.length u.ec] 28) = wy at HS ⊢
  generalize w4.heap.size = B12 at HS ⊢
  obtain ⟨z0, z1, z2, z3⟩ := (HS.out.b 0 rfl).all
  go_wp2_with fail
  refine (HCI.out _ (HS.out.r 0 rfl)).mono ?_
  rintro e w5 m5
  obtain ⟨p5, c5, rfl, -, r5, b⟩ := m5.get
  have HR5 := Lib.hid r5
  have HT := Lib.hid (HS.out.call b)
  clear HS
  have HS := HT
  clear HT
  clear z0 z1 z2 z3
  clear m5 r5 b HCI
  obtain ⟨z0, z1, z2, z3⟩ := (HS.out.b 0 rfl).all
  go_wp2_with fail
  refine (HCS.out _ (HS.out.r 0 rfl)).mono ?_
  rintro e w6 m6
  obtain ⟨p6, c6, rfl, -, r6, b⟩ := m6.get
  have HR6 := Lib.hid r6
  have HR7 := Lib.hid (HR5.out.below b)
  have HT := Lib.hid (HS.out.call b)
  clear HS
  have HS := HT
  clear HT
  clear z0 z1 z2 z3
  clear m6 r6 b HCS HR5
  go_wp2_with fail
  refine (like_yes _ _ _ _ _ _ _ _ HR7.out HR6.out (by omega)).mono ?_
  rintro e w7 ⟨rfl, b⟩
  have HT := Lib.hid (HS.out.call b)
  clear HS
  have HS := HT
  clear HT
  clear b HR6 HR7
  by_cases hc : c = 0
  rotate_left
  · have hcb : (c != 0) = true := by simp [hc]
    clear HOK hc
    go_wp2_with fail
    go_ret
    exact ⟨rfl, HS.out.below⟩
  obtain ⟨j, hkj, hj, hw⟩ := HOK.out hc
  subst hkj hc
  clear HOK hcc hrr hss hc2 hlen hbig
  obtain ⟨N, hN⟩ : ∃ N, v.n.length = N := ⟨_, rfl⟩
  obtain ⟨H, hH⟩ : ∃ H : Nat → Nat, hostTo v.n (inMode v.e j) = H := ⟨_, rfl⟩
  have hH0 : H 0 = 0 := by rw [← hH]; rfl
  have hN5 : N ≤ 5 := by rw [← hN]; exact HAN.out.nl
  have HV := Lib.hid (fun i (hi : i < N) W (hW : RdMe W v) => (show ∃ l : List Int, H (i + 1) = H i + l.length ∧ H i ≤ 5 * 1048576 ∧ l.length ≤ 1048576 ∧ Calls Tryz.prog 30 #[mvVal v, .int .i64 j, .int .i64 (ndOf v.n i).id] W (Makes2 2 W l 0) from by
    have h := sendTimes_any v j (ndOf v.n i).id W hW
    have hl := sendTimes_len v.me j (ndOf v.n i).id
    have ho := host_one (m := v.me) hw hj (i := i) (by rw [← hN] at hi; exact hi)
    have hle := hostTo_le v.n (inMode v.e j) i
    have hm := mode_small (j := j) hw
    have h5 : i * (inMode v.e j).length ≤ 5 * 1048576 := Nat.mul_le_mul (by omega) hm
    rw [show sendTimes v.me (j : Int) (ndOf v.n i).id = _ from ho] at h hl
    exact ⟨_, by rw [← hH]; rfl, by rw [← hH]; omega, hl, h⟩))
  have HCY := Lib.hid (fun W (hW : RdMe W v) => (show Calls Tryz.prog 18 #[.slice v.mo v.cs.length v.mc, .int .i64 j] W fun e w' => e = .returned (.tuple #[.int .i64 (H N : Nat), .int .i64 0]) ∧ Below W.heap.size W w' from by
    have h := cycleSlotsI_any v.mo v.cs.length v.mc v.cs j W hW.rm hW.ml hW.ms
    have hc := host_cycle (m := v.me) hw hj
    rw [show cycleSlots (mds v.cs) (j : Int) = _ from hc] at h
    rw [← hN, ← hH]
    exact h))
  have HN := Lib.hid hN
  clear hw hj hH hN HAN
  go_upto_region 15 with fail
  go_loopw [19, 20] (fun a i wr => ∃ k : Nat, k ≤ N ∧ a = .int .i64 (H k : Nat) ∧ i = .int .i64 k ∧ Hid (Sh 28 w wr [(B12, u), (B3, v)])) (fun _ i _ => N - (intOf i).toNat)
  case atStart => exact ⟨0, Nat.zero_le _, by rw [hH0]; rfl, rfl, HS⟩
  case round =>
    obtain ⟨k, hk, rfl, rfl, HS⟩ := hrel
    obtain ⟨z0, z1, z2, z3⟩ := (HS.out.b 1 rfl).all
    rw [HN.out] at z1
    by_cases hlt : k < N
    · obtain ⟨g, off, e0, -⟩ := (HS.out.r 1 rfl).rn.here (by rw [HN.out]; omega)
      have HY := Lib.hid (fun W (hW : RdMe W v) => (show W.cell? ⟨g, off + k * 4, none⟩ = some (.int .i64 (ndOf v.n k).id) from by
        obtain ⟨g', off', e1, hx⟩ := hW.rn.here (by rw [HN.out]; omega)
        rw [e0] at e1
        cases e1
        exact (hx k (by rw [HN.out]; exact hlt)).c0))
      have HWP := Lib.hid (fun W hW => HV.out k hlt W hW)
      generalize (ndOf v.n k).id = y at HY HWP
      unfold mvVal at HWP
      rw [e0, HN.out] at HWP
      rw [e0] at z1
      have HSF := Lib.hid (fun W (h : Sh 28 w W [(B12, u), (B3, v)]) => (show W.cell? ⟨B3, 0, none⟩ = some (.int .i64 v.id) ∧ W.cell? ⟨B3, 1, none⟩ = some (.slice (some ⟨g, off, none⟩) N v.nc) ∧ W.cell? ⟨B3, 2, none⟩ = some (.slice v.mo v.cs.length v.mc) ∧ W.cell? ⟨B3, 3, none⟩ = some (.slice v.eo v.e.length v.ec) ∧ W.cell? ⟨g, off + k * 4, none⟩ = some (.int .i64 y) from by
        obtain ⟨z0, z1, z2, z3⟩ := (h.b 1 rfl).all
        rw [HN.out, e0] at z1
        exact ⟨z0, z1, z2, z3, HY.out W (h.r 1 rfl)⟩))
      clear e0 HY
      have hkk : ((k : Nat) : Int) < (N : Int) := by omega
      go_upto_region 17 with fail
      have HD := Lib.hid (HS.out.call (Below.drew (Below.refl _ _)))
      have hq := HSF.out _ HD.out
      clear z0 z1 z2 z3 HS
      refine wp_region_held_drew (S := fun w' => w'.cell? ⟨B3, 0, none⟩ = some (.int .i64 v.id) ∧ w'.cell? ⟨B3, 1, none⟩ = some (.slice (some ⟨g, off, none⟩) N v.nc) ∧ w'.cell? ⟨B3, 2, none⟩ = some (.slice v.mo v.cs.length v.mc) ∧ w'.cell? ⟨B3, 3, none⟩ = some (.slice v.eo v.e.length v.ec) ∧ w'.cell? ⟨g, off + k * 4, none⟩ = some (.int .i64 y)) (by kernel_rfl) (hq) (fun hHeld => ?_)
      generalize wr.drew = wd at HD hq hHeld ⊢
      refine wpAnyH_take (i := 0) (v := ?_) rfl (by kernel_rfl) (by kernel_rfl) (by kernel_rfl) (fun _ _ _ h => h) (Or.inl ⟨by rfl, ?_⟩) (by assumption) ?_
      rotate_left
      · (intro w hSw; (try dsimp only at hSw); go_simp; (try with_reducible rfl))
      try simp only [List.getElem_toArray, List.getElem_cons_succ, List.getElem_cons_zero, Act.put, List.setIfInBounds_toArray, List.set_cons_zero, List.set_cons_succ]
      refine wpAnyH_take (i := 1) (v := ?_) rfl (by kernel_rfl) (by kernel_rfl) (by kernel_rfl) (fun _ _ _ h => h) (Or.inl ⟨by rfl, ?_⟩) (by assumption) ?_
      rotate_left
      · (intro w hSw; (try dsimp only at hSw); go_simp; (try with_reducible rfl))
      try simp only [List.getElem_toArray, List.getElem_cons_succ, List.getElem_cons_zero, Act.put, List.setIfInBounds_toArray, List.set_cons_zero, List.set_cons_succ]
      refine wpAnyH_take (i := 2) (v := ?_) rfl (by kernel_rfl) (by kernel_rfl) (by kernel_rfl) (fun _ _ _ h => h) (Or.inl ⟨by rfl, ?_⟩) (by assumption) ?_
      rotate_left
      · (intro w hSw; (try dsimp only at hSw); go_simp; (try with_reducible rfl))
      try simp only [List.getElem_toArray, List.getElem_cons_succ, List.getElem_cons_zero, Act.put, List.setIfInBounds_toArray, List.set_cons_zero, List.set_cons_succ]
      refine wpAnyH_take (i := 3) (v := ?_) rfl (by kernel_rfl) (by kernel_rfl) (by kernel_rfl) (fun _ _ _ h => h) (Or.inl ⟨by rfl, ?_⟩) (by assumption) ?_
      rotate_left
      · (intro w hSw; (try dsimp only at hSw); go_simp; (try with_reducible rfl))
      try simp only [List.getElem_toArray, List.getElem_cons_succ, List.getElem_cons_zero, Act.put, List.setIfInBounds_toArray, List.set_cons_zero, List.set_cons_succ]
      refine wpAnyH_take (i := 4) (v := ?_) rfl (by kernel_rfl) (by kernel_rfl) (by kernel_rfl) (fun _ _ _ h => h) (Or.inl ⟨by rfl, ?_⟩) (by assumption) ?_
      rotate_left
      · (intro w hSw; (try dsimp only at hSw); go_simp; (try with_reducible rfl))
      try simp only [List.getElem_toArray, List.getElem_cons_succ, List.getElem_cons_zero, Act.put, List.setIfInBounds_toArray, List.set_cons_zero, List.set_cons_succ]
      refine wpAnyH_take (i := 5) (v := ?_) rfl (by kernel_rfl) (by kernel_rfl) (by kernel_rfl) (fun _ _ _ h => h) (Or.inl ⟨by rfl, ?_⟩) (by assumption) ?_
      rotate_left
      · (intro w hSw; (try dsimp only at hSw); go_simp; (try with_reducible rfl))
      try simp only [List.getElem_toArray, List.getElem_cons_succ, List.getElem_cons_zero, Act.put, List.setIfInBounds_toArray, List.set_cons_zero, List.set_cons_succ]
      refine wpAnyH_take (i := 6) (v := ?_) rfl (by kernel_rfl) (by kernel_rfl) (by kernel_rfl) (fun _ _ _ h => h) (Or.inl ⟨by rfl, ?_⟩) (by assumption) ?_
      rotate_left
      · (intro w hSw; (try dsimp only at hSw); go_simp; (try with_reducible rfl))
      try simp only [List.getElem_toArray, List.getElem_cons_succ, List.getElem_cons_zero, Act.put, List.setIfInBounds_toArray, List.set_cons_zero, List.set_cons_succ]
      refine wpAnyH_take (i := 7) (v := ?_) rfl (by kernel_rfl) (by kernel_rfl) (by kernel_rfl) (fun _ _ _ h => h) (Or.inl ⟨by rfl, ?_⟩) (by assumption) ?_
      rotate_left
      · (intro w hSw; (try dsimp only at hSw); go_simp; (try with_reducible rfl))
      try simp only [List.getElem_toArray, List.getElem_cons_succ, List.getElem_cons_zero, Act.put, List.setIfInBounds_toArray, List.set_cons_zero, List.set_cons_succ]
      refine wpAnyH_ready (rs := [8]) (by kernel_rfl) (by simp) (AllReadyH.cons rfl (fun K hK => ?_) AllReadyH.nil)
      go_simp
      obtain ⟨l, hl1, hl2, hl3, hcl⟩ := HWP.out _ (HD.out.r 1 rfl)
      refine hcl.mono ?_
      rintro e w8 m8
      obtain ⟨p8, c8, rfl, -, -, b⟩ := m8.get
      have HS8 := Lib.hid (HD.out.call b)
      have hq8 := HSF.out _ HS8.out
      clear m8 b hcl HD hq
      go_wp2_with fail
      refine hK.out _ _ ?_ (fun hHeld => ?_)
      · exact hq8
      clear hK K
      try simp only [List.getElem_toArray, List.getElem_cons_succ, List.getElem_cons_zero, Act.put, List.setIfInBounds_toArray, List.set_cons_zero, List.set_cons_succ]
      refine wpAnyH_take (i := 9) (v := ?_) rfl (by kernel_rfl) (by kernel_rfl) (by kernel_rfl) (fun _ _ _ h => h) (Or.inl ⟨by rfl, ?_⟩) (by assumption) ?_
      rotate_left
      · (intro w hSw; (try dsimp only at hSw); go_simp; (try with_reducible rfl))
      try simp only [List.getElem_toArray, List.getElem_cons_succ, List.getElem_cons_zero, Act.put, List.setIfInBounds_toArray, List.set_cons_zero, List.set_cons_succ]
      refine wpAnyH_take (i := 10) (v := ?_) rfl (by kernel_rfl) (by kernel_rfl) (by kernel_rfl) (fun _ _ _ h => h) (Or.inl ⟨by rfl, ?_⟩) (by assumption) ?_
      rotate_left
      · (intro w hSw; (try dsimp only at hSw); go_simp; (try with_reducible rfl))
      try simp only [List.getElem_toArray, List.getElem_cons_succ, List.getElem_cons_zero, Act.put, List.setIfInBounds_toArray, List.set_cons_zero, List.set_cons_succ]
      refine wpAnyH_take (i := 11) (v := ?_) rfl (by kernel_rfl) (by kernel_rfl) (by kernel_rfl) (fun _ _ _ h => h) (Or.inl ⟨by rfl, ?_⟩) (by assumption) ?_
      rotate_left
      · (intro w hSw; (try dsimp only at hSw); go_simp; (try with_reducible rfl))
      try simp only [List.getElem_toArray, List.getElem_cons_succ, List.getElem_cons_zero, Act.put, List.setIfInBounds_toArray, List.set_cons_zero, List.set_cons_succ]
      refine wpAnyH_take (i := 12) (v := ?_) rfl (by kernel_rfl) (by kernel_rfl) (by kernel_rfl) (fun _ _ _ h => h) (Or.inl ⟨by rfl, ?_⟩) (by assumption) ?_
      rotate_left
      · (intro w hSw; (try dsimp only at hSw); go_simp; (try with_reducible rfl))
      try simp only [List.getElem_toArray, List.getElem_cons_succ, List.getElem_cons_zero, Act.put, List.setIfInBounds_toArray, List.set_cons_zero, List.set_cons_succ]
      refine wpAnyH_take (i := 13) (v := ?_) rfl (by kernel_rfl) (by kernel_rfl) (by kernel_rfl) (fun _ _ _ h => h) (Or.inl ⟨by rfl, ?_⟩) (by assumption) ?_
      rotate_left
      · (intro w hSw; (try dsimp only at hSw); go_simp; (try with_reducible rfl))
      try simp only [List.getElem_toArray, List.getElem_cons_succ, List.getElem_cons_zero, Act.put, List.setIfInBounds_toArray, List.set_cons_zero, List.set_cons_succ]
      refine wpAnyH_done (by kernel_rfl) ?_ _
      clear hHeld hq8
      go_wp2_with fail
      go_roundw
      case rel => exact ⟨k + 1, by omega, by go_num, by go_num, HS8⟩
      case measure => simp [intOf]; omega
    · have hkn : k = N := by omega
      subst hkn
      have HC := Lib.hid (HCY.out _ (HS.out.r 1 rfl))
      go_wp2_with fail
      refine HC.out.mono ?_
      rintro e w9 ⟨rfl, b⟩
      have HB := Lib.hid (HS.out.call b).below
      clear z0 z1 z2 z3 b HC HS
      go_wp2_with fail
      go_ret
      exact ⟨by simp, HB.out⟩


end Go.Proofs.YtnbbbndfpehinaaGreat.fnSlotAt
