/-
  The walk of laws.FnModePaths: at every input it returns true and writes nothing that was there.
-/
import Derived.Test.YtfmedckompdjgaaRows
import Derived.Test.YtfmedckompdjgaaP3
import Derived.Test.YtfmedckompdjgaaPA
import Derived.Test.YtfmedckompdjgaaPU
import Derived.Test.YtfmedckompdjgaaRE
import Derived.Test.YtfmedckompdjgaaMl
import Derived.Test.YtfmedckompdjgaaFiv
import Derived.Test.YtfmedckompdjgaaDrawA
import Derived.Test.YtfmedckompdjgaaDrawB
import Derived.WalkKit
import Derived.ProofKit
import Derived.OpenShut
import Derived.ShutString
import Derived.ChangeOld
import Derived.Below
namespace Go.Proofs.Ytfmedckompdjgaa.fnModePaths
open Go.ChangeShapes Go.WideShapes Go.ChangeAt Go.RowKit
open Go.ChangeMaps (open_string shut_string)
set_option linter.unusedVariables false


/-- WHAT THE WALK IS TOLD OF A SLICE OF INTEGERS THAT CAME IN: it is nil; or it leads to a row of 'cap' cells, the numbers 'zs' (the first 'len' are its elements, the rest its spare room), each fitting its kind. -/
def IsRow (k : IntKind) (w : World) (a : Option Addr) (len cap : Nat) (zs : List Int) : Prop :=
  (a = none ∧ len = 0 ∧ cap = 0 ∧ zs = []) ∨
  ∃ x, a = some x ∧ len ≤ cap ∧ cap ≤ maxLen ∧ zs.length = cap ∧ (∀ i, i < zs.length → w.cell? (x.add i) = some (.int k (zs.getD i 0))) ∧ ∀ n ∈ zs, (Lit.int k n).wf = true

/-! ### STEP 1: THE WALK: the Go text returns true, AND WRITES NOTHING THAT WAS THERE: 'Below w.heap.size w w'' (Derived/Below.lean: '.refl', '.alloc', '.drew', '.setCell' at a new block, '.trans'). Open each 'IsRow' by 'rcases' AHEAD of 'go_enter'; part every test ahead of the walk. -/
set_option maxRecDepth 100000 in set_option maxHeartbeats 4000000 in set_option linter.unusedSimpArgs false in
theorem walk (a0 : Option Addr) (len0 cap0 : Nat) (z0 : List Int) (w : World) (w0 : IsRow .u8 w a0 len0 cap0 z0) :
    Calls Try.prog 5 #[.slice a0 len0 cap0] w fun e w' => e = .returned (.bool true) ∧ Below w.heap.size w w' := by
  have hr := rdB_of_row w0
  clear w0
  generalize List.take len0 z0 = cs at hr
  have HR := Lib.hid hr; clear hr
  by_cases hbig : len0 ≤ 4096
  rotate_left
  · go_enter Try.func5, Try.ntmps5
    go_wp2_with fail
    refine (big_yes _ _ _ _ hbig).mono ?_
    rintro e w' ⟨rfl, rfl⟩
    go_wp2
    go_ret
    exact ⟨rfl, Below.refl _ _⟩
  go_enter Try.func5, Try.ntmps5
  go_wp2_with fail
  refine (big_no _ _ _ _ hbig).mono ?_
  rintro e w' ⟨rfl, rfl⟩
  go_wp2_with fail
  refine (drawModePath_any _ _ _ cs _ HR.out (by omega)).mono ?_
  rintro e w1 ⟨tao, tn, tcap, ms, ma, mb, rfl, rT, haT, bT⟩
  have HT := Lib.hid rT; have HBT := Lib.hid bT
  have HSM := Lib.hid (show smallM ms from fun c hc => by have := haT.2 c hc; omega)
  have htn : tn ≤ 1048576 := by have := haT.1; have := rT.len; omega
  have H : Hold w1 w1 [] := Hold.start
  clear rT haT bT HR hbig
  obtain ⟨r0, kc0, hF⟩ : ∃ r0 kc0, modePath (mds ms) ma mb = (r0, kc0) := ⟨_, _, rfl⟩
  have HF := Lib.hid hF
  have hlen : r0.length ≤ 1048576 := by have h := modePath_len (mds ms) ma mb; rw [hF] at h; exact h
  obtain ⟨r1, kc1, hG⟩ : ∃ r1 kc1, reachableModes (mds ms) ma = (r1, kc1) := ⟨_, _, rfl⟩
  have HG := Lib.hid hG
  have hlen1 : r1.length ≤ 1048576 := by have h := reachable_len (mds ms) ma; rw [hG] at h; exact h
  clear hF hG
  go_wp2_with fail
  refine (modePathI_any _ _ _ ms ma mb _ (HT.out.below H.below) htn HSM.out).mono ?_
  rintro e w1' m1
  rw [HF.out] at m1
  change Makes2 2 _ r0 kc0 _ _ at m1
  obtain ⟨p1, c1, rfl, o1, -, b1⟩ := m1.get
  replace H : Hold w1 _ ([ints 2 (Value.slice p1 r0.length c1) (r0)] ++ (([] : List It))) := H.makeI o1 b1
  clear o1 b1 m1
  go_wp2_with fail
  refine (modePathS_any _ _ _ ms ma mb _ (HT.out.below H.below) htn HSM.out).mono ?_
  rintro e w2' m2
  rw [HF.out] at m2
  change Makes2 2 _ r0 kc0 _ _ at m2
  obtain ⟨p2, c2, rfl, o2, -, b2⟩ := m2.get
  replace H : Hold w1 _ ([ints 2 (Value.slice p2 r0.length c2) (r0)] ++ ([ints 2 (Value.slice p1 r0.length c1) (r0)] ++ (([] : List It)))) := H.makeI o2 b2
  clear o2 b2 m2
  go_wp2_with fail
  refine (reachI_any _ _ _ ms ma _ (HT.out.below H.below) htn HSM.out).mono ?_
  rintro e w3' m3
  rw [HG.out] at m3
  change Makes2 2 _ r1 kc1 _ _ at m3
  obtain ⟨p3, c3, rfl, o3, -, b3⟩ := m3.get
  replace H : Hold w1 _ ([ints 2 (Value.slice p3 r1.length c3) (r1)] ++ ([ints 2 (Value.slice p2 r0.length c2) (r0)] ++ ([ints 2 (Value.slice p1 r0.length c1) (r0)] ++ (([] : List It))))) := H.makeI o3 b3
  clear o3 b3 m3
  go_wp2_with fail
  refine (reachS_any _ _ _ ms ma _ (HT.out.below H.below) htn HSM.out).mono ?_
  rintro e w4' m4
  rw [HG.out] at m4
  change Makes2 2 _ r1 kc1 _ _ at m4
  obtain ⟨p4, c4, rfl, o4, -, b4⟩ := m4.get
  replace H : Hold w1 _ ([ints 2 (Value.slice p4 r1.length c4) (r1)] ++ ([ints 2 (Value.slice p3 r1.length c3) (r1)] ++ ([ints 2 (Value.slice p2 r0.length c2) (r0)] ++ ([ints 2 (Value.slice p1 r0.length c1) (r0)] ++ (([] : List It)))))) := H.makeI o4 b4
  clear o4 b4 m4
  obtain ⟨q, hq⟩ : ∃ q, mayChange (mds ms) ma mb = q := ⟨_, rfl⟩
  have HQ := Lib.hid hq; clear hq
  have hn0 : (kc0 != kc0) = false := bne_self_eq_false _
  have hn1 : (kc1 != kc1) = false := bne_self_eq_false _
  have hnq : (q != q) = false := bne_self_eq_false _
  go_wp2_with fail
  refine (like_yes _ _ _ _ _ _ _ _ (Hold.rdI_ (E := 2) (xs := r0) (ao := p1) (n := r0.length) (cap := c1) (L1 := [ints 2 (Value.slice p4 r1.length c4) (r1)] ++ ([ints 2 (Value.slice p3 r1.length c3) (r1)] ++ ([ints 2 (Value.slice p2 r0.length c2) (r0)] ++ (([] : List It))))) (L2 := ([] : List It)) (by simpa only [List.append_assoc, List.nil_append] using H)) (Hold.rdI_ (E := 2) (xs := r0) (ao := p2) (n := r0.length) (cap := c2) (L1 := [ints 2 (Value.slice p4 r1.length c4) (r1)] ++ ([ints 2 (Value.slice p3 r1.length c3) (r1)] ++ (([] : List It)))) (L2 := [ints 2 (Value.slice p1 r0.length c1) (r0)] ++ (([] : List It))) (by simpa only [List.append_assoc, List.nil_append] using H)) (by omega)).mono ?_
  rintro e w5' ⟨rfl, b5⟩
  replace H := H.still b5
  clear b5
  go_wp2_with fail
  refine (like_yes _ _ _ _ _ _ _ _ (Hold.rdI_ (E := 2) (xs := r1) (ao := p3) (n := r1.length) (cap := c3) (L1 := [ints 2 (Value.slice p4 r1.length c4) (r1)] ++ (([] : List It))) (L2 := [ints 2 (Value.slice p2 r0.length c2) (r0)] ++ ([ints 2 (Value.slice p1 r0.length c1) (r0)] ++ (([] : List It)))) (by simpa only [List.append_assoc, List.nil_append] using H)) (Hold.rdI_ (E := 2) (xs := r1) (ao := p4) (n := r1.length) (cap := c4) (L1 := ([] : List It)) (L2 := [ints 2 (Value.slice p3 r1.length c3) (r1)] ++ ([ints 2 (Value.slice p2 r0.length c2) (r0)] ++ ([ints 2 (Value.slice p1 r0.length c1) (r0)] ++ (([] : List It))))) (by simpa only [List.append_assoc, List.nil_append] using H)) (by omega)).mono ?_
  rintro e w6' ⟨rfl, b6⟩
  replace H := H.still b6
  clear b6
  go_wp2_with fail
  refine (mayChangeI_any _ _ _ ms ma mb _ (HT.out.below H.below) htn HSM.out).mono ?_
  rintro e w7' ⟨rfl, b7⟩
  replace H := H.still b7
  clear b7
  rw [HQ.out]
  go_wp2_with fail
  refine (mayChangeS_any _ _ _ ms ma mb _ (HT.out.below H.below) htn HSM.out).mono ?_
  rintro e w8' ⟨rfl, b8⟩
  replace H := H.still b8
  clear b8
  rw [HQ.out]
  clear hn0 hn1 hnq
  by_cases h0 : kc0 = 0
  rotate_left
  · skip
    have t0 : (kc0 != 0) = true := by simp [h0]
    clear h0
    by_cases h4 : kc0 = 4
    rotate_left
    · have t4 : (kc0 != 4) = true := by simp [h4]
      clear h4
      go_wp2_with fail
      go_ret
      exact ⟨rfl, HBT.out.trans (H.below.mono HBT.out.size)⟩
    subst h4
    obtain ⟨hv, hma, -, hnm⟩ := path_none HF.out
    have hr1 : r1 = reachOf (mds ms) ma.toNat := by
      have h := HG.out
      unfold reachableModes at h
      rw [if_neg (by rw [hv]; simp), if_neg (by rw [hma]; simp)] at h
      exact (Prod.mk.inj h).1.symm
    have hdm : decide (mb ∈ r1) = false := by rw [hr1]; exact decide_eq_false hnm
    clear hv hma hnm hr1
    go_wp2_with fail
    refine (hasInt_any _ _ _ r1 mb _ (Hold.rdI_ (E := 2) (xs := r1) (ao := p3) (n := r1.length) (cap := c3) (L1 := [ints 2 (Value.slice p4 r1.length c4) (r1)] ++ (([] : List It))) (L2 := [ints 2 (Value.slice p2 r0.length c2) (r0)] ++ ([ints 2 (Value.slice p1 r0.length c1) (r0)] ++ (([] : List It)))) (by simpa only [List.append_assoc, List.nil_append] using H)) (by omega)).mono ?_
    rintro e w' ⟨rfl, rfl⟩
    rw [hdm]
    go_wp2_with fail
    go_ret
    exact ⟨rfl, HBT.out.trans (H.below.mono HBT.out.size)⟩
  subst h0
  obtain ⟨hv, hma, hmb, N, hdN, hpN, hlN, hfst, hlst, hbr, hmay, htwo⟩ := path_law HF.out
  have hr1 : r1 = reachOf (mds ms) ma.toNat := by
    have h := HG.out
    unfold reachableModes at h
    rw [if_neg (by rw [hv]; simp), if_neg (by rw [hma]; simp)] at h
    exact (Prod.mk.inj h).1.symm
  have hdm : decide (mb ∈ r1) = true := by rw [hr1]; exact decide_eq_true hbr
  rw [HQ.out, hlN] at htwo
  have HMAY := Lib.hid hmay; have HDM := Lib.hid hdm; have HTWO := Lib.hid htwo; have HFST := Lib.hid hfst; have HLST := Lib.hid hlst
  have hN : N ≤ 1048576 := by omega
  have hwl : w1.heap.size ≤ w1.heap.size := Nat.le_refl _
  clear hv hma hmb hdN hpN hfst hlst hbr hmay hr1 hdm htwo
  have HRP := Lib.hid ((Hold.rdI_ (E := 2) (xs := r0) (ao := p1) (n := r0.length) (cap := c1) (L1 := [ints 2 (Value.slice p4 r1.length c4) (r1)] ++ ([ints 2 (Value.slice p3 r1.length c3) (r1)] ++ ([ints 2 (Value.slice p2 r0.length c2) (r0)] ++ (([] : List It))))) (L2 := ([] : List It)) (by simpa only [List.append_assoc, List.nil_append] using H)))
  have HRC := Lib.hid ((Hold.rdI_ (E := 2) (xs := r1) (ao := p3) (n := r1.length) (cap := c3) (L1 := [ints 2 (Value.slice p4 r1.length c4) (r1)] ++ (([] : List It))) (L2 := [ints 2 (Value.slice p2 r0.length c2) (r0)] ++ ([ints 2 (Value.slice p1 r0.length c1) (r0)] ++ (([] : List It)))) (by simpa only [List.append_assoc, List.nil_append] using H)))
  rw [hlN] at HRP ⊢
  have HL0 := Lib.hid hlN; clear hlN
  have HBW := Lib.hid H.below
  clear H hlen
  go_wp2_with fail
  go_loopw [14] (fun I wr => ∃ k : Nat, k ≤ N ∧ I = .int .i64 ((k : Int) + 1) ∧ Below w8'.heap.size w8' wr) (fun I _ => N + 1 - (intOf I).toNat)
  case atStart => exact ⟨0, Nat.zero_le _, rfl, Below.refl _ _⟩
  case round =>
    obtain ⟨k, hk, rfl, hb⟩ := hrel
    have hrp := HRP.out.below hb
    have hrc := HRC.out.below hb
    have HTW := Lib.hid (HT.out.below (below_two HBW.out hb))
    have HBB := Lib.hid (below_two HBW.out hb)
    obtain ⟨pb, poff, hpe, hcp⟩ := hrp.here (by omega)
    subst hpe
    by_cases hkN : k < N
    · have ca := hcp k (by omega)
      have cb := hcp (k + 1) (by omega)
      have hmy := HMAY.out k hkN
      have hki : (k : Int) + 1 < (N : Int) + 1 := by omega
      have HB := Lib.hid hb
      generalize r0.getD k 0 = y1 at ca hmy
      generalize r0.getD (k + 1) 0 = y2 at cb hmy
      have HMY := Lib.hid hmy
      clear hmy hb hrp hrc hcp
      have hbd : Below wr.heap.size wr wr.drew := Below.drew (Below.refl _ _)
      have hplt : pb < wr.heap.size := World.block_lt_of_cell? wr _ ca
      have ca' := (hbd.cell (p := ⟨pb, poff + k, none⟩) hplt).trans ca
      have cb' := (hbd.cell (p := ⟨pb, poff + (k + 1), none⟩) hplt).trans cb
      have HTD := Lib.hid (HTW.out.below hbd); have HBD := Lib.hid (below_two HB.out hbd)
      clear hbd ca cb HTW HB HBB
      go_upto_region 15 with fail
      have hwr : IntKind.i64.wrap (k : Int) = (k : Int) := by rw [IntKind.wrap_i64]; omega
      have hkb0 : (k : Int) < (N : Int) + 1 := by omega
      have hkb1 : (0 : Int) ≤ (k : Int) + 1 := by omega
      have hplt' : pb < wr.drew.heap.size := hplt
      refine wp_region_held_drew (S := fun w' => w'.cell? ⟨pb, poff + k, none⟩ = some (.int .i64 y1) ∧ w'.cell? ⟨pb, poff + (k + 1), none⟩ = some (.int .i64 y2)) (by kernel_rfl) (⟨ca', cb'⟩) (fun hHeld => ?_)
      generalize wr.drew = wd at hHeld ca' cb' HTD HBD hplt' ⊢
      refine wpAnyH_take (i := 0) (v := ?_) rfl (by kernel_rfl) (by kernel_rfl) (by kernel_rfl) (fun _ _ _ h => h) (Or.inl ⟨by rfl, ?_⟩) (by assumption) ?_
      rotate_left
      · (intro w hSw; obtain ⟨hS1, hS2⟩ := hSw; go_simp; (try with_reducible rfl))
      try simp only [List.getElem_toArray, List.getElem_cons_succ, List.getElem_cons_zero, Act.put, List.setIfInBounds_toArray, List.set_cons_zero, List.set_cons_succ]
      refine wpAnyH_take (i := 1) (v := ?_) rfl (by kernel_rfl) (by kernel_rfl) (by kernel_rfl) (fun _ _ _ h => h) (Or.inl ⟨by rfl, ?_⟩) (by assumption) ?_
      rotate_left
      · (intro w hSw; obtain ⟨hS1, hS2⟩ := hSw; go_simp; (try with_reducible rfl))
      try simp only [List.getElem_toArray, List.getElem_cons_succ, List.getElem_cons_zero, Act.put, List.setIfInBounds_toArray, List.set_cons_zero, List.set_cons_succ]
      refine wpAnyH_take (i := 2) (v := ?_) rfl (by kernel_rfl) (by kernel_rfl) (by kernel_rfl) (fun _ _ _ h => h) (Or.inl ⟨by rfl, ?_⟩) (by assumption) ?_
      rotate_left
      · (intro w hSw; obtain ⟨hS1, hS2⟩ := hSw; go_simp; (try with_reducible rfl))
      try simp only [List.getElem_toArray, List.getElem_cons_succ, List.getElem_cons_zero, Act.put, List.setIfInBounds_toArray, List.set_cons_zero, List.set_cons_succ]
      refine wpAnyH_take (i := 3) (v := ?_) rfl (by kernel_rfl) (by kernel_rfl) (by kernel_rfl) (fun _ _ _ h => h) (Or.inl ⟨by rfl, ?_⟩) (by assumption) ?_
      rotate_left
      · (intro w hSw; obtain ⟨hS1, hS2⟩ := hSw; go_simp; (try with_reducible rfl))
      try simp only [List.getElem_toArray, List.getElem_cons_succ, List.getElem_cons_zero, Act.put, List.setIfInBounds_toArray, List.set_cons_zero, List.set_cons_succ]
      refine wpAnyH_take (i := 4) (v := ?_) rfl (by kernel_rfl) (by kernel_rfl) (by kernel_rfl) (fun _ _ _ h => h) (Or.inl ⟨by rfl, ?_⟩) (by assumption) ?_
      rotate_left
      · (intro w hSw; obtain ⟨hS1, hS2⟩ := hSw; go_simp; (try with_reducible rfl))
      try simp only [List.getElem_toArray, List.getElem_cons_succ, List.getElem_cons_zero, Act.put, List.setIfInBounds_toArray, List.set_cons_zero, List.set_cons_succ]
      refine wpAnyH_take (i := 5) (v := ?_) rfl (by kernel_rfl) (by kernel_rfl) (by kernel_rfl) (fun _ _ _ h => h) (Or.inl ⟨by rfl, ?_⟩) (by assumption) ?_
      rotate_left
      · (intro w hSw; obtain ⟨hS1, hS2⟩ := hSw; go_simp; (try with_reducible rfl))
      try simp only [List.getElem_toArray, List.getElem_cons_succ, List.getElem_cons_zero, Act.put, List.setIfInBounds_toArray, List.set_cons_zero, List.set_cons_succ]
      refine wpAnyH_take (i := 6) (v := ?_) rfl (by kernel_rfl) (by kernel_rfl) (by kernel_rfl) (fun _ _ _ h => h) (Or.inl ⟨by rfl, ?_⟩) (by assumption) ?_
      rotate_left
      · (intro w hSw; obtain ⟨hS1, hS2⟩ := hSw; go_simp; (try with_reducible rfl))
      try simp only [List.getElem_toArray, List.getElem_cons_succ, List.getElem_cons_zero, Act.put, List.setIfInBounds_toArray, List.set_cons_zero, List.set_cons_succ]
      refine wpAnyH_take (i := 7) (v := ?_) rfl (by kernel_rfl) (by kernel_rfl) (by kernel_rfl) (fun _ _ _ h => h) (Or.inl ⟨by rfl, ?_⟩) (by assumption) ?_
      rotate_left
      · (intro w hSw; obtain ⟨hS1, hS2⟩ := hSw; go_simp; (try with_reducible rfl))
      try simp only [List.getElem_toArray, List.getElem_cons_succ, List.getElem_cons_zero, Act.put, List.setIfInBounds_toArray, List.set_cons_zero, List.set_cons_succ]
      refine wpAnyH_take (i := 8) (v := ?_) rfl (by kernel_rfl) (by kernel_rfl) (by kernel_rfl) (fun _ _ _ h => h) (Or.inl ⟨by rfl, ?_⟩) (by assumption) ?_
      rotate_left
      · (intro w hSw; obtain ⟨hS1, hS2⟩ := hSw; go_simp; (try with_reducible rfl))
      try simp only [List.getElem_toArray, List.getElem_cons_succ, List.getElem_cons_zero, Act.put, List.setIfInBounds_toArray, List.set_cons_zero, List.set_cons_succ]
      refine wpAnyH_take (i := 9) (v := ?_) rfl (by kernel_rfl) (by kernel_rfl) (by kernel_rfl) (fun _ _ _ h => h) (Or.inl ⟨by rfl, ?_⟩) (by assumption) ?_
      rotate_left
      · (intro w hSw; obtain ⟨hS1, hS2⟩ := hSw; go_simp; (try with_reducible rfl))
      try simp only [List.getElem_toArray, List.getElem_cons_succ, List.getElem_cons_zero, Act.put, List.setIfInBounds_toArray, List.set_cons_zero, List.set_cons_succ]
      refine wpAnyH_ready (rs := [10]) (by kernel_rfl) (by simp) (AllReadyH.cons rfl (fun K hK => ?_) AllReadyH.nil)
      go_simp
      refine (mayChangeI_any _ _ _ ms y1 y2 _ HTD.out htn HSM.out).mono ?_
      rintro e w5 ⟨rfl, b5⟩
      rw [HMY.out]
      have HB5 := Lib.hid (below_two HBD.out b5)
      have ca5 := (b5.cell (p := ⟨pb, poff + k, none⟩) hplt').trans ca'
      have cb5 := (b5.cell (p := ⟨pb, poff + (k + 1), none⟩) hplt').trans cb'
      clear b5
      go_wp2_with fail
      refine hK.out _ _ ?_ (fun hHeld => ?_)
      · exact ⟨ca5, cb5⟩
      clear hK K
      try simp only [List.getElem_toArray, List.getElem_cons_succ, List.getElem_cons_zero, Act.put, List.setIfInBounds_toArray, List.set_cons_zero, List.set_cons_succ]
      refine wpAnyH_take (i := 11) (v := ?_) rfl (by kernel_rfl) (by kernel_rfl) (by kernel_rfl) (fun _ _ _ h => h) (Or.inl ⟨by rfl, ?_⟩) (by assumption) ?_
      rotate_left
      · (intro w hSw; obtain ⟨hS1, hS2⟩ := hSw; go_simp; (try with_reducible rfl))
      try simp only [List.getElem_toArray, List.getElem_cons_succ, List.getElem_cons_zero, Act.put, List.setIfInBounds_toArray, List.set_cons_zero, List.set_cons_succ]
      refine wpAnyH_done (by kernel_rfl) ?_ _
      go_wp2_with fail
      go_roundw
      case rel => exact ⟨k + 1, by omega, by go_num, HB5.out⟩
      case measure => simp [intOf]; omega
    · have hkN' : k = N := by omega
      subst hkN'
      have ca := hcp 0 (by omega)
      have cb := hcp k (by omega)
      rw [HFST.out] at ca
      rw [HLST.out] at cb
      have hki : ¬ (k : Int) + 1 < (k : Int) + 1 := by omega
      have HRC2 := Lib.hid hrc; have HMC := Lib.hid (mayChangeI_any tao tn tcap ms ma mb _ HTW.out htn HSM.out)
      clear hb hrp hrc hcp
      rw [Nat.add_zero] at ca
      have hqq : (q == q) = true := beq_self_eq_true _
      have hw1 : IntKind.i64.wrap ((k : Int) + 1 - 1) = (k : Int) := by rw [IntKind.wrap_i64]; omega
      have hfin : ∀ v : Bool, v = q → (v == q) = true := fun v e => by rw [e]; exact beq_self_eq_true _
      by_cases hk1 : k = 1
      · subst hk1
        have hqt : q = true := by rw [← HTWO.out]; rfl
        subst hqt
        go_wp2_with fail
        refine (hasInt_any _ _ _ r1 mb _ HRC2.out (by omega)).mono ?_
        rintro e w6 ⟨rfl, rfl⟩
        rw [HDM.out]
        go_wp2_with fail
        refine HMC.out.mono ?_
        rintro e w7 ⟨rfl, b7⟩
        rw [HQ.out]
        have HB7 := Lib.hid (below_two HBB.out b7)
        clear b7
        go_wp2_with fail
        go_ret
        exact ⟨rfl, HBT.out.trans (HB7.out.mono HBT.out.size)⟩
      · have hqt : q = false := by rw [← HTWO.out]; exact decide_eq_false (by omega)
        subst hqt
        have hkb : ((k : Int) + 1 == 2) = false := by simp; omega
        go_wp2_with fail
        refine (hasInt_any _ _ _ r1 mb _ HRC2.out (by omega)).mono ?_
        rintro e w6 ⟨rfl, rfl⟩
        rw [HDM.out]
        go_wp2_with fail
        refine HMC.out.mono ?_
        rintro e w7 ⟨rfl, b7⟩
        rw [HQ.out]
        have HB7 := Lib.hid (below_two HBB.out b7)
        clear b7
        go_wp2_with fail
        go_ret
        exact ⟨rfl, HBT.out.trans (HB7.out.mono HBT.out.size)⟩


end Go.Proofs.Ytfmedckompdjgaa.fnModePaths
