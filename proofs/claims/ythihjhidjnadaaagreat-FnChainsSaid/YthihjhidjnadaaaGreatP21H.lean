/-
  Contracts of the program's, the model's and the laws' functions, and plain mathematics, on which a proof of this claim stands (part H).
-/

import Derived.Test.YthihjhidjnadaaaGreatP21F
import Derived.Test.YthihjhidjnadaaaGreatP21V
import Derived.Test.YthihjhidjnadaaaGreatP21T
import Derived.Test.YthihjhidjnadaaaGreatP21I
namespace Go.Proofs.YthihjhidjnadaaaGreat
section
open Go.RowKit
theorem passB_all {t : List Nd} {ds : List Int} {k : Nat} (_hk : k ≤ ds.length) (h : passB t ds k ≠ 0) : passB t ds k = 4 ∧ passB t ds ds.length = 4 := by
  unfold passB at h ⊢
  by_cases h1 : (ds.take k).any (nodePassive t) = true
  · refine ⟨if_pos h1, if_pos ?_⟩
    rw [List.take_length]
    obtain ⟨x, hx, e⟩ := List.any_eq_true.1 h1
    exact List.any_eq_true.2 ⟨x, List.mem_of_mem_take hx, e⟩
  · rw [if_neg h1] at h
    exact absurd rfl h
set_option linter.unusedSimpArgs false in
set_option maxRecDepth 100000 in
set_option maxHeartbeats 4000000 in
theorem l17Code_any (v : Mv) (k : Int) (bo : Option Addr) (k0 kc : Nat) (ds : List Int) (w : World) (hr : RdMe w v) (hd : Rd w bo k0 ds) (hk1 : 0 < k0) (hk0 : k0 ≤ 1048576) :
    Calls Tryz.prog 90 #[mvVal v, .int .i64 k, .slice bo k0 kc] w fun e w' => e = .returned (.int .i64 (codeAn v.me k ds)) ∧ Below w.heap.size w w' := by
  have HX := Lib.hid (Bx.start (T := 28) hr)
  have HC := Lib.hid (fun W hW => l13Mode_any v k W hW)
  have hk1i : (0 : Int) < (k0 : Int) := by omega
  by_cases hc : codeMe v.me k = 0
  rotate_left
  · rw [show codeAn v.me k ds = codeMe v.me k from by unfold codeAn; rw [show codeLm v.me k = codeMe v.me k from rfl, if_neg hc]]
    generalize codeMe v.me k = c at HC hc ⊢
    have hcc : (c == 0) = false := by simp [hc]
    clear hr hc hd
    unfold mvVal at HC ⊢
    go_enter Tryz.func90, Tryz.ntmps90
    go_upto_region 1 with fail
    generalize w.alloc (.cells #[.int .i64 v.id, .slice v.no v.n.length v.nc, .slice v.mo v.cs.length v.mc, .slice v.eo v.e.length v.ec] 28) = w1 at HX ⊢
    obtain ⟨z0, z1, z2, z3⟩ := HX.out.at_.all
    go_wp2_with fail
    refine (HC.out _ HX.out.rd).mono ?_
    rintro e w2 ⟨rfl, b2⟩
    clear z0 z1 z2 z3
    go_wp2_with fail
    go_loopw [7, 8] (fun s i wr => s = .int .i64 c ∧ i = .int .i64 0 ∧ wr = w2) (fun _ _ _ => 0)
    case atStart => exact ⟨rfl, rfl, rfl⟩
    case round =>
      obtain ⟨rfl, rfl, rfl⟩ := hrel
      go_wp2_with fail
      go_loopw [7, 9] (fun s i w3 => s = .int .i64 c ∧ i = .int .i64 0 ∧ w3 = wr) (fun _ _ _ => 0)
      case atStart => exact ⟨rfl, rfl, rfl⟩
      case round =>
        obtain ⟨rfl, rfl, rfl⟩ := hrel
        go_wp2_with fail
        go_ret
        exact ⟨rfl, (HX.out.call b2).below⟩
  rw [hc] at HC
  obtain ⟨j, rfl, hj, hm, -, -⟩ := codeMe_yes hc
  have hw := medl_iff.1 hm
  have h2 : isTable v.n = true := hw.r2
  have HA := Lib.hid (show codeAn v.me (j : Int) ds = codeSend v.n ds from by unfold codeAn; rw [show codeLm v.me (j : Int) = codeMe v.me (j : Int) from rfl, if_pos hc]; rfl)
  have HAC := Lib.hid (fun W (hW : RdMe W v) => (show Calls Tryz.prog 126 #[.slice v.no v.n.length v.nc] W fun e w' => e = .returned (.int .i64 (actv v.me : Nat)) ∧ W = w' from l10Active_any v.no v.n.length v.nc v.n W hW.rn (by have := hW.nl; omega) h2))
  have HKN := Lib.hid (fun d W (hW : RdMe W v) => (show Calls Tryz.prog 144 #[mvVal v, .int .i64 d] W fun e w' => e = .returned (.bool ((findNode v.n d).2 == 0)) ∧ Below W.heap.size W w' from l15Known_any v d W hW))
  have HBT := Lib.hid (fun d (h : (findNode v.n d).2 = 0) => (show (0 ≤ d ∧ d ≤ 31) ∧ (actv v.me).testBit d.toNat = !(nodePassive v.n d) from node_bit h2 h))
  have HL := Lib.hid hd.len
  have HZ := Lib.hid (passB_zero v.n ds)
  have HPN := Lib.hid (fun k (hk : k < k0) => passB_next (t := v.n) (ds := ds) (k := k) (by rw [hd.len]; exact hk))
  have HPA := Lib.hid (fun k (hk : k ≤ k0) h => passB_all (t := v.n) (ds := ds) (k := k) (by rw [hd.len]; exact hk) h)
  have HUN := Lib.hid (fun k (hk : k < k0) h => codeSend_unknown (t := v.n) (ds := ds) (k := k) (by rw [hd.len]; exact hk) h)
  have HEN := Lib.hid (fun (h : ∀ j, j < k0 → nodeUnknown v.n (ds.getD j 0) = false) => (show codeSend v.n ds = passB v.n ds ds.length from codeSend_end (t := v.n) (ds := ds) (by rw [hd.len]; exact h)))
  rw [HA.out]
  have HD := Lib.hid hd
  generalize codeSend v.n ds = R at HUN HEN ⊢
  generalize actv v.me = AV at HAC HBT
  clear hc hm hw hj hr hd h2 HA
  unfold mvVal at HC HKN ⊢
  go_enter Tryz.func90, Tryz.ntmps90
  go_upto_region 1 with fail
  have HDX := Lib.hid ((Below.refl w.heap.size w).alloc (Nat.le_refl _) (.cells #[.int .i64 v.id, .slice v.no v.n.length v.nc, .slice v.mo v.cs.length v.mc, .slice v.eo v.e.length v.ec] 28))
  generalize w.alloc (.cells #[.int .i64 v.id, .slice v.no v.n.length v.nc, .slice v.mo v.cs.length v.mc, .slice v.eo v.e.length v.ec] 28) = w1 at HX HDX ⊢
  obtain ⟨z0, z1, z2, z3⟩ := HX.out.at_.all
  go_wp2_with fail
  refine (HC.out _ HX.out.rd).mono ?_
  rintro e w2 ⟨rfl, b2⟩
  have HX2 := Lib.hid (HX.out.call b2)
  clear z0 z1 z2 z3 HDX b2 HX HC
  obtain ⟨m0, hm0⟩ : ∃ m0, m0 = w.heap.size := ⟨_, rfl⟩
  rw [← hm0] at HX2 ⊢
  have HM0 := Lib.hid hm0
  clear hm0
  go_wp2_with fail
  go_loopw [7, 8] (fun s i wr => ∃ k : Nat, k ≤ k0 ∧ i = .int .i64 k ∧ Hid (Bx 28 w wr m0 v) ∧ ((s = .int .i64 0 ∧ Hid (∀ j, j < k → nodeUnknown v.n (ds.getD j 0) = false)) ∨ (s = .int .i64 2 ∧ Hid (R = 2)))) (fun _ i _ => k0 - (intOf i).toNat)
  case atStart => exact ⟨0, Nat.zero_le _, rfl, HX2, .inl ⟨rfl, Lib.hid (fun j h => absurd h (by omega))⟩⟩
  case round =>
    clear HX2
    obtain ⟨k, hk, rfl, HX3, ⟨rfl, HU⟩ | ⟨rfl, HR2⟩⟩ := hrel
    rotate_left
    · by_cases hlt : k < k0
      · have hlti : (k : Int) < (k0 : Int) := by omega
        go_wp2_with fail
        go_loopw [7, 9] (fun s i w3 => s = .int .i64 2 ∧ i = .int .i64 0 ∧ w3 = wr) (fun _ _ _ => 0)
        case atStart => exact ⟨rfl, rfl, rfl⟩
        case round =>
          obtain ⟨rfl, rfl, rfl⟩ := hrel
          go_wp2_with fail
          go_ret
          exact ⟨by rw [HR2.out]; rfl, HX3.out.below⟩
      · have hkn : k = k0 := by omega
        subst hkn
        go_wp2_with fail
        go_loopw [7, 9] (fun s i w3 => s = .int .i64 2 ∧ i = .int .i64 0 ∧ w3 = wr) (fun _ _ _ => 0)
        case atStart => exact ⟨rfl, rfl, rfl⟩
        case round =>
          obtain ⟨rfl, rfl, rfl⟩ := hrel
          go_wp2_with fail
          go_ret
          exact ⟨by rw [HR2.out]; rfl, HX3.out.below⟩
    by_cases hlt : k < k0
    · have hlti : (k : Int) < (k0 : Int) := by omega
      obtain ⟨b, off, rfl, hx⟩ := HD.out.here (by omega)
      have x0 := hx k hlt
      have hlb : b < w.heap.size := World.block_lt_of_cell? w _ x0
      have x1 : wr.cell? ⟨b, off + k, none⟩ = some (.int .i64 (ds.getD k 0)) := (HX3.out.below.cell (p := ⟨b, off + k, none⟩) hlb).trans x0
      have HNU := Lib.hid (show nodeUnknown v.n (ds.getD k 0) = decide ((findNode v.n (ds.getD k 0)).2 ≠ 0) from rfl)
      have HU2 := Lib.hid (HUN.out k hlt)
      have HU3 := Lib.hid (show nodeUnknown v.n (ds.getD k 0) = false → ∀ j, j < k + 1 → nodeUnknown v.n (ds.getD j 0) = false from fun h j hj => by
        by_cases e : j = k
        · rw [e]; exact h
        · exact HU.out j (by omega))
      have HKD := Lib.hid (fun W hW => HKN.out (ds.getD k 0) W hW)
      generalize ds.getD k 0 = d at x1 HNU HU2 HU3 HKD
      clear x0 hx
      go_upto_region 5 with fail
      have HX4 := Lib.hid (HX3.out.call (Below.drew (Below.refl wr.heap.size wr)))
      have hq : wr.drew.cell? ⟨m0, 0, none⟩ = some (.int .i64 v.id) ∧ wr.drew.cell? ⟨m0, 1, none⟩ = some (.slice v.no v.n.length v.nc) ∧ wr.drew.cell? ⟨m0, 2, none⟩ = some (.slice v.mo v.cs.length v.mc) ∧ wr.drew.cell? ⟨m0, 3, none⟩ = some (.slice v.eo v.e.length v.ec) ∧ wr.drew.cell? ⟨b, off + k, none⟩ = some (.int .i64 d) := ⟨HX4.out.at_.all.1, HX4.out.at_.all.2.1, HX4.out.at_.all.2.2.1, HX4.out.at_.all.2.2.2, x1⟩
      clear x1 HX3
      refine wp_region_held_drew (S := fun w' => w'.cell? ⟨m0, 0, none⟩ = some (.int .i64 v.id) ∧ w'.cell? ⟨m0, 1, none⟩ = some (.slice v.no v.n.length v.nc) ∧ w'.cell? ⟨m0, 2, none⟩ = some (.slice v.mo v.cs.length v.mc) ∧ w'.cell? ⟨m0, 3, none⟩ = some (.slice v.eo v.e.length v.ec) ∧ w'.cell? ⟨b, off + k, none⟩ = some (.int .i64 d)) (by kernel_rfl) (hq) (fun hHeld => ?_)
      generalize wr.drew = wd at HX4 hq hHeld ⊢
      refine wpAnyH_take (i := 0) (v := ?_) rfl (by kernel_rfl) (by kernel_rfl) (by kernel_rfl) (fun _ _ _ h => h) (Or.inl ⟨by rfl, ?_⟩) (by assumption) ?_
      rotate_left
      · (intro w hSw; (try dsimp only at hSw); go_simp; (try with_reducible rfl))
      try simp only [pa, pb, pc, Act.put, pe, pf, pg]
      refine wpAnyH_take (i := 1) (v := ?_) rfl (by kernel_rfl) (by kernel_rfl) (by kernel_rfl) (fun _ _ _ h => h) (Or.inl ⟨by rfl, ?_⟩) (by assumption) ?_
      rotate_left
      · (intro w hSw; (try dsimp only at hSw); go_simp; (try with_reducible rfl))
      try simp only [pa, pb, pc, Act.put, pe, pf, pg]
      refine wpAnyH_take (i := 2) (v := ?_) rfl (by kernel_rfl) (by kernel_rfl) (by kernel_rfl) (fun _ _ _ h => h) (Or.inl ⟨by rfl, ?_⟩) (by assumption) ?_
      rotate_left
      · (intro w hSw; (try dsimp only at hSw); go_simp; (try with_reducible rfl))
      try simp only [pa, pb, pc, Act.put, pe, pf, pg]
      refine wpAnyH_take (i := 3) (v := ?_) rfl (by kernel_rfl) (by kernel_rfl) (by kernel_rfl) (fun _ _ _ h => h) (Or.inl ⟨by rfl, ?_⟩) (by assumption) ?_
      rotate_left
      · (intro w hSw; (try dsimp only at hSw); go_simp; (try with_reducible rfl))
      try simp only [pa, pb, pc, Act.put, pe, pf, pg]
      refine wpAnyH_take (i := 4) (v := ?_) rfl (by kernel_rfl) (by kernel_rfl) (by kernel_rfl) (fun _ _ _ h => h) (Or.inl ⟨by rfl, ?_⟩) (by assumption) ?_
      rotate_left
      · (intro w hSw; (try dsimp only at hSw); go_simp; (try with_reducible rfl))
      try simp only [pa, pb, pc, Act.put, pe, pf, pg]
      refine wpAnyH_ready (rs := [5]) (by kernel_rfl) (by simp) (AllReadyH.cons rfl (fun K hK => ?_) AllReadyH.nil)
      go_simp
      refine (HKD.out wd HX4.out.rd).mono ?_
      rintro e w5 ⟨rfl, b5⟩
      have HX5 := Lib.hid (HX4.out.call b5)
      have hlbd : b < wd.heap.size := World.block_lt_of_cell? wd _ hq.2.2.2.2
      have hqn : w5.cell? ⟨m0, 0, none⟩ = some (.int .i64 v.id) ∧ w5.cell? ⟨m0, 1, none⟩ = some (.slice v.no v.n.length v.nc) ∧ w5.cell? ⟨m0, 2, none⟩ = some (.slice v.mo v.cs.length v.mc) ∧ w5.cell? ⟨m0, 3, none⟩ = some (.slice v.eo v.e.length v.ec) ∧ w5.cell? ⟨b, off + k, none⟩ = some (.int .i64 d) := ⟨HX5.out.at_.all.1, HX5.out.at_.all.2.1, HX5.out.at_.all.2.2.1, HX5.out.at_.all.2.2.2, (b5.cell (p := ⟨b, off + k, none⟩) hlbd).trans hq.2.2.2.2⟩
      clear b5 hq HX4
      go_wp2_with fail
      refine hK.out _ _ ?_ (fun hHeld => ?_)
      · exact hqn
      clear hK K
      try simp only [pa, pb, pc, Act.put, pe, pf, pg]
      refine wpAnyH_take (i := 6) (v := ?_) rfl (by kernel_rfl) (by kernel_rfl) (by kernel_rfl) (fun _ _ _ h => h) (Or.inl ⟨by rfl, ?_⟩) (by assumption) ?_
      rotate_left
      · (intro w hSw; (try dsimp only at hSw); go_simp; (try with_reducible rfl))
      try simp only [pa, pb, pc, Act.put, pe, pf, pg]
      refine wpAnyH_done (by kernel_rfl) ?_ _
      clear hqn
      by_cases hq0 : (findNode v.n d).2 = 0
      · have hqb : ((findNode v.n d).2 == 0) = true := by simp [hq0]
        have HU4 := Lib.hid (HU3.out (HNU.out.trans (by simp [hq0])))
        rw [hqb]
        go_wp2_with fail
        go_roundw
        case rel => exact ⟨k + 1, by omega, by go_num, HX5, .inl ⟨rfl, HU4⟩⟩
        case measure => simp [intOf]; omega
      · have hqb : ((findNode v.n d).2 == 0) = false := by simp [hq0]
        have HU4 := Lib.hid (HU2.out (HNU.out.trans (by simp [hq0])))
        rw [hqb]
        go_wp2_with fail
        go_roundw
        case rel => exact ⟨k + 1, by omega, by go_num, HX5, .inr ⟨rfl, HU4⟩⟩
        case measure => simp [intOf]; omega
    · have hkn : k = k0 := by omega
      subst hkn
      have HE := Lib.hid (HEN.out HU.out)
      rw [HL.out] at HE
      clear HUN HEN HKN
      go_wp2_with fail
      obtain ⟨w4, hw4⟩ : ∃ w4, wr = w4 := ⟨_, rfl⟩
      rw [hw4] at HX3
      rw [hw4]
      clear hw4
      go_loopw [7, 9] (fun s i wr => ∃ i0 : Nat, i0 ≤ k ∧ i = .int .i64 i0 ∧ s = .int .i64 (passB v.n ds i0) ∧ Hid (Bx 28 w wr m0 v)) (fun _ i _ => k - (intOf i).toNat)
      case atStart => exact ⟨0, Nat.zero_le _, rfl, by rw [HZ.out], HX3⟩
      case round =>
        clear HX3
        obtain ⟨i, hi, rfl, rfl, HX3⟩ := hrel
        by_cases hp0 : passB v.n ds i = 0
        rotate_left
        · obtain ⟨h4, h5⟩ := HPA.out i hi hp0
          rw [HL.out] at h5
          rw [h4]
          have HE2 := Lib.hid (HE.out.trans h5)
          clear HE
          by_cases hlt : i < k
          · have hlti : (i : Int) < (k : Int) := by omega
            go_wp2_with fail
            go_ret
            exact ⟨by rw [HE2.out]; rfl, HX3.out.below⟩
          · have hkn : i = k := by omega
            subst hkn
            go_wp2_with fail
            go_ret
            exact ⟨by rw [HE2.out]; rfl, HX3.out.below⟩
        by_cases hlt : i < k
        · have hlti : (i : Int) < (k : Int) := by omega
          obtain ⟨b, off, rfl, hx⟩ := HD.out.here (by omega)
          have x0 := hx i hlt
          have hlb : b < w.heap.size := World.block_lt_of_cell? w _ x0
          have x1 : wr.cell? ⟨b, off + i, none⟩ = some (.int .i64 (ds.getD i 0)) := (HX3.out.below.cell (p := ⟨b, off + i, none⟩) hlb).trans x0
          have HN := Lib.hid (HPN.out i hlt)
          have hkn : (findNode v.n (ds.getD i 0)).2 = 0 := by
            have h := HU.out i hlt
            have h2 : nodeUnknown v.n (ds.getD i 0) = decide ((findNode v.n (ds.getD i 0)).2 ≠ 0) := rfl
            rw [h2] at h
            simpa using h
          obtain ⟨hd31, htb⟩ := HBT.out (ds.getD i 0) hkn
          have HTB := Lib.hid htb
          clear htb hkn
          generalize ds.getD i 0 = d at x1 HN hd31 HTB
          obtain ⟨dn, rfl⟩ : ∃ dn : Nat, d = (dn : Int) := ⟨d.toNat, by omega⟩
          rw [Int.toNat_natCast] at HTB
          have hdn : dn < 32 := by omega
          rw [hp0] at HN
          rw [hp0]
          clear x0 hx hp0
          go_upto_region 10 with fail
          have HX4 := Lib.hid (HX3.out.call (Below.drew (Below.refl wr.heap.size wr)))
          have hq : wr.drew.cell? ⟨m0, 1, none⟩ = some (.slice v.no v.n.length v.nc) ∧ wr.drew.cell? ⟨b, off + i, none⟩ = some (.int .i64 (dn : Int)) := ⟨HX4.out.at_.all.2.1, x1⟩
          clear x1 HX3
          refine wp_region_held_drew (S := fun w' => w'.cell? ⟨m0, 1, none⟩ = some (.slice v.no v.n.length v.nc) ∧ w'.cell? ⟨b, off + i, none⟩ = some (.int .i64 (dn : Int))) (by kernel_rfl) (hq) (fun hHeld => ?_)
          generalize wr.drew = wd at HX4 hq hHeld ⊢
          refine wpAnyH_take (i := 0) (v := ?_) rfl (by kernel_rfl) (by kernel_rfl) (by kernel_rfl) (fun _ _ _ h => h) (Or.inl ⟨by rfl, ?_⟩) (by assumption) ?_
          rotate_left
          · (intro w hSw; (try dsimp only at hSw); go_simp; (try with_reducible rfl))
          try simp only [pa, pb, pc, Act.put, pe, pf, pg]
          refine wpAnyH_take (i := 1) (v := ?_) rfl (by kernel_rfl) (by kernel_rfl) (by kernel_rfl) (fun _ _ _ h => h) (Or.inl ⟨by rfl, ?_⟩) (by assumption) ?_
          rotate_left
          · (intro w hSw; (try dsimp only at hSw); go_simp; (try with_reducible rfl))
          try simp only [pa, pb, pc, Act.put, pe, pf, pg]
          refine wpAnyH_take (i := 3) (v := ?_) rfl (by kernel_rfl) (by kernel_rfl) (by kernel_rfl) (fun _ _ _ h => h) (Or.inl ⟨by rfl, ?_⟩) (by assumption) ?_
          rotate_left
          · (intro w hSw; (try dsimp only at hSw); go_simp; (try with_reducible rfl))
          try simp only [pa, pb, pc, Act.put, pe, pf, pg]
          refine wpAnyH_take (i := 4) (v := ?_) rfl (by kernel_rfl) (by kernel_rfl) (by kernel_rfl) (fun _ _ _ h => h) (Or.inl ⟨by rfl, ?_⟩) (by assumption) ?_
          rotate_left
          · (intro w hSw; (try dsimp only at hSw); go_simp; (try with_reducible rfl))
          try simp only [pa, pb, pc, Act.put, pe, pf, pg]
          refine wpAnyH_take (i := 5) (v := ?_) rfl (by kernel_rfl) (by kernel_rfl) (by kernel_rfl) (fun _ _ _ h => h) (Or.inl ⟨by rfl, ?_⟩) (by assumption) ?_
          rotate_left
          · (intro w hSw; (try dsimp only at hSw); go_simp; (try with_reducible rfl))
          try simp only [pa, pb, pc, Act.put, pe, pf, pg]
          refine wpAnyH_take (i := 6) (v := ?_) rfl (by kernel_rfl) (by kernel_rfl) (by kernel_rfl) (fun _ _ _ h => h) (Or.inl ⟨by rfl, ?_⟩) (by assumption) ?_
          rotate_left
          · (intro w hSw; (try dsimp only at hSw); go_simp; (try with_reducible rfl))
          try simp only [pa, pb, pc, Act.put, pe, pf, pg]
          refine wpAnyH_ready (rs := [2]) (by kernel_rfl) (by simp) (AllReadyH.cons rfl (fun K hK => ?_) AllReadyH.nil)
          go_simp
          refine (HAC.out wd HX4.out.rd).mono ?_
          rintro e w5 ⟨rfl, rfl⟩
          go_wp2_with fail
          refine hK.out _ _ ?_ (fun hHeld => ?_)
          · exact hq
          clear hK K
          try simp only [pa, pb, pc, Act.put, pe, pf, pg]
          refine wpAnyH_ready (rs := [7]) (by kernel_rfl) (by simp) (AllReadyH.cons rfl (fun K hK => ?_) AllReadyH.nil)
          go_simp
          refine (l05Has_any AV dn wd hdn).mono ?_
          rintro e w6 ⟨rfl, rfl⟩
          go_wp2_with fail
          refine hK.out _ _ ?_ (fun hHeld => ?_)
          · exact hq
          clear hK K
          try simp only [pa, pb, pc, Act.put, pe, pf, pg]
          refine wpAnyH_take (i := 8) (v := ?_) rfl (by kernel_rfl) (by kernel_rfl) (by kernel_rfl) (fun _ _ _ h => h) (Or.inl ⟨by rfl, ?_⟩) (by assumption) ?_
          rotate_left
          · (intro w hSw; (try dsimp only at hSw); go_simp; (try with_reducible rfl))
          try simp only [pa, pb, pc, Act.put, pe, pf, pg]
          refine wpAnyH_done (by kernel_rfl) ?_ _
          clear hq
          cases hpp : nodePassive v.n (dn : Int)
          · have hqb : AV.testBit dn = true := HTB.out.trans (by rw [hpp]; rfl)
            have HN2 := Lib.hid (show passB v.n ds (i + 1) = 0 from HN.out.trans (by rw [hpp, if_neg (by simp)]))
            rw [hqb]
            clear HN
            go_wp2_with fail
            go_roundw
            case rel => exact ⟨i + 1, by omega, by go_num, by rw [HN2.out], HX4⟩
            case measure => simp [intOf]; omega
          · have hqb : AV.testBit dn = false := HTB.out.trans (by rw [hpp]; rfl)
            have HN2 := Lib.hid (show passB v.n ds (i + 1) = 4 from HN.out.trans (by rw [hpp, if_pos rfl]))
            rw [hqb]
            clear HN
            go_wp2_with fail
            go_roundw
            case rel => exact ⟨i + 1, by omega, by go_num, by rw [HN2.out], HX4⟩
            case measure => simp [intOf]; omega
        · have hkn : i = k := by omega
          subst hkn
          have HE2 := Lib.hid (HE.out.trans hp0)
          rw [hp0]
          clear HE
          go_wp2_with fail
          go_ret
          exact ⟨by rw [HE2.out]; rfl, HX3.out.below⟩
end

section
open Go.RowKit
set_option linter.unusedSimpArgs false in
set_option maxRecDepth 100000 in
set_option maxHeartbeats 4000000 in
theorem l17Ends_any (ao : Option Addr) (n cap : Nat) (xs : List Int) (w : World) (hr : Rd w ao n xs) (h0 : 0 < n) (hn : n ≤ 1000) :
    Calls Tryz.prog 93 #[.slice ao n cap] w fun e w' => e = .returned (.tuple #[.int .i64 (lowL xs), .int .i64 (topL xs)]) ∧ Below w.heap.size w w' := by
  obtain ⟨b, off, rfl, hx⟩ := hr.here h0
  have hl := hr.len
  have hq : w.drew.cell? ⟨b, off, none⟩ = some (.int .i64 (xs.getD 0 0)) := hx 0 h0
  have H1 := Lib.hid (lowL_one (l := xs) (by omega))
  have H2 := Lib.hid (topL_one (l := xs) (by omega))
  have HLN := Lib.hid (fun k (h0 : 0 < k) (hk : k < n) => lowL_next (l := xs) h0 (by rw [hl]; exact hk))
  have HTN := Lib.hid (fun k (h0 : 0 < k) (hk : k < n) => topL_next (l := xs) h0 (by rw [hl]; exact hk))
  have HA := Lib.hid (show xs.take n = xs from List.take_of_length_le (by omega))
  have HX := Lib.hid (fun i (hi : i < n) W (hW : Below w.heap.size w W) => (show W.cell? ⟨b, off + i, none⟩ = some (.int .i64 (xs.getD i 0)) from (hW.cell (p := ⟨b, off + i, none⟩) (World.block_lt_of_cell? w _ (hx i hi))).trans (hx i hi)))
  have h0i : (0 : Int) < (n : Int) := by omega
  generalize xs.getD 0 0 = x0 at hq H1 H2
  clear hl hx hr
  go_enter Tryz.func93, Tryz.ntmps93
  go_upto_region 1 with fail
  have HB := Lib.hid (Below.drew (Below.refl w.heap.size w))
  refine wp_region_held_drew (S := fun w' => w'.cell? ⟨b, off, none⟩ = some (.int .i64 x0)) (by kernel_rfl) (hq) (fun hHeld => ?_)
  generalize w.drew = wd at HB hq hHeld ⊢
  refine wpAnyH_take (i := 0) (v := ?_) rfl (by kernel_rfl) (by kernel_rfl) (by kernel_rfl) (fun _ _ _ h => h) (Or.inl ⟨by rfl, ?_⟩) (by assumption) ?_
  rotate_left
  · (intro w hSw; (try dsimp only at hSw); go_simp; (try with_reducible rfl))
  try simp only [pa, pb, pc, Act.put, pe, pf, pg]
  refine wpAnyH_take (i := 1) (v := ?_) rfl (by kernel_rfl) (by kernel_rfl) (by kernel_rfl) (fun _ _ _ h => h) (Or.inl ⟨by rfl, ?_⟩) (by assumption) ?_
  rotate_left
  · (intro w hSw; (try dsimp only at hSw); go_simp; (try with_reducible rfl))
  try simp only [pa, pb, pc, Act.put, pe, pf, pg]
  refine wpAnyH_take (i := 2) (v := ?_) rfl (by kernel_rfl) (by kernel_rfl) (by kernel_rfl) (fun _ _ _ h => h) (Or.inl ⟨by rfl, ?_⟩) (by assumption) ?_
  rotate_left
  · (intro w hSw; (try dsimp only at hSw); go_simp; (try with_reducible rfl))
  try simp only [pa, pb, pc, Act.put, pe, pf, pg]
  refine wpAnyH_take (i := 3) (v := ?_) rfl (by kernel_rfl) (by kernel_rfl) (by kernel_rfl) (fun _ _ _ h => h) (Or.inl ⟨by rfl, ?_⟩) (by assumption) ?_
  rotate_left
  · (intro w hSw; (try dsimp only at hSw); go_simp; (try with_reducible rfl))
  try simp only [pa, pb, pc, Act.put, pe, pf, pg]
  refine wpAnyH_take (i := 4) (v := ?_) rfl (by kernel_rfl) (by kernel_rfl) (by kernel_rfl) (fun _ _ _ h => h) (Or.inl ⟨by rfl, ?_⟩) (by assumption) ?_
  rotate_left
  · (intro w hSw; (try dsimp only at hSw); go_simp; (try with_reducible rfl))
  try simp only [pa, pb, pc, Act.put, pe, pf, pg]
  refine wpAnyH_take (i := 5) (v := ?_) rfl (by kernel_rfl) (by kernel_rfl) (by kernel_rfl) (fun _ _ _ h => h) (Or.inl ⟨by rfl, ?_⟩) (by assumption) ?_
  rotate_left
  · (intro w hSw; (try dsimp only at hSw); go_simp; (try with_reducible rfl))
  try simp only [pa, pb, pc, Act.put, pe, pf, pg]
  refine wpAnyH_take (i := 6) (v := ?_) rfl (by kernel_rfl) (by kernel_rfl) (by kernel_rfl) (fun _ _ _ h => h) (Or.inl ⟨by rfl, ?_⟩) (by assumption) ?_
  rotate_left
  · (intro w hSw; (try dsimp only at hSw); go_simp; (try with_reducible rfl))
  try simp only [pa, pb, pc, Act.put, pe, pf, pg]
  refine wpAnyH_take (i := 7) (v := ?_) rfl (by kernel_rfl) (by kernel_rfl) (by kernel_rfl) (fun _ _ _ h => h) (Or.inl ⟨by rfl, ?_⟩) (by assumption) ?_
  rotate_left
  · (intro w hSw; (try dsimp only at hSw); go_simp; (try with_reducible rfl))
  try simp only [pa, pb, pc, Act.put, pe, pf, pg]
  refine wpAnyH_done (by kernel_rfl) ?_ _
  clear hq
  go_wp2_with fail
  go_loopw [4, 5, 6] (fun lo hi i wr => ∃ k : Nat, 0 < k ∧ k ≤ n ∧ i = .int .i64 k ∧ lo = .int .i64 (lowL (xs.take k)) ∧ hi = .int .i64 (topL (xs.take k)) ∧ wr = wd) (fun _ _ i _ => n - (intOf i).toNat)
  case atStart => exact ⟨1, by omega, by omega, rfl, by rw [H1.out], by rw [H2.out], rfl⟩
  case round =>
    obtain ⟨k, hk0, hk, rfl, rfl, rfl, rfl⟩ := hrel
    by_cases hlt : k < n
    · have hlti : (k : Int) < (n : Int) := by omega
      have x1 := HX.out k hlt wr HB.out
      have HL2 := Lib.hid (HLN.out k hk0 hlt)
      have HT2 := Lib.hid (HTN.out k hk0 hlt)
      generalize xs.getD k 0 = q at x1 HL2 HT2
      generalize lowL (xs.take k) = p1 at HL2 ⊢
      generalize topL (xs.take k) = p2 at HT2 ⊢
      go_wp2_with fail
      all_goals go_roundw
      all_goals first | (exact ⟨k + 1, by omega, by omega, by go_num, by rw [HL2.out, min_if17], by rw [HT2.out, max_if17], trivial⟩) | (simp [intOf]; omega) | trace_state
    · have hkn : k = n := by omega
      subst hkn
      go_wp2_with fail
      go_ret2
      exact ⟨by rw [show lowL xs = lowL (xs.take k) from by rw [HA.out], show topL xs = topL (xs.take k) from by rw [HA.out]]; rfl, HB.out⟩
set_option linter.unusedSimpArgs false in
set_option maxRecDepth 100000 in
set_option maxHeartbeats 4000000 in
theorem l17Gaps_any (v : Mv) (j : Nat) (d : Int) (w : World) (hr : RdMe w v) (hw : Well v.me) (hj : j < v.me.modes.length) (ho : SdOk (dursum (inMode v.e j)) (sentL (inMode v.e j) d)) :
    Calls Tryz.prog 91 #[mvVal v, .int .i64 (j : Int), .int .i64 d] w (Makes 2 w (gapsL (dursum (inMode v.e j)) (sentL (inMode v.e j) d))) := by
  have HX := Lib.hid (Bx.start (T := 28) hr)
  have HTI := Lib.hid (fun W (hW : RdMe W v) => (by have h := l15Times_any v j d W hW hw hj; rw [← sent_times] at h; exact h : Calls Tryz.prog 108 #[mvVal v, .int .i64 (j : Int), .int .i64 d] W (Makes 2 W ((sentTo (inMode v.e j) d (inMode v.e j).length).map Sd.st))))
  change Hid (∀ W, RdMe W v → Calls Tryz.prog 108 #[mvVal v, .int .i64 (j : Int), .int .i64 d] W (Makes 2 W ((sentL (inMode v.e j) d).map Sd.st))) at HTI
  have HCY := Lib.hid (fun W (hW : RdMe W v) => l13Cycle_any v j W hW hw.r4)
  have htl : ((sentL (inMode v.e j) d).map Sd.st).length = (sentL (inMode v.e j) d).length := List.length_map ..
  have hget : ∀ i, i < (sentL (inMode v.e j) d).length → ((sentL (inMode v.e j) d).map Sd.st).getD i 0 = (sdOf (sentL (inMode v.e j) d) i).st := fun i hi => by simp [List.getD, hi, sdOf_get hi]
  have HBD := Lib.hid (fun i (hi : i < (sentL (inMode v.e j) d).length) => (by rw [hget i hi]; have h1 := ho.lo i hi; have h2 := ho.c1; omega : 0 ≤ ((sentL (inMode v.e j) d).map Sd.st).getD i 0 ∧ ((sentL (inMode v.e j) d).map Sd.st).getD i 0 ≤ 32000))
  have HG1 := Lib.hid (fun i (hi : i < (sentL (inMode v.e j) d).length) (h1 : i + 1 < (sentL (inMode v.e j) d).length) => (show (gapsL (dursum (inMode v.e j)) (sentL (inMode v.e j) d)).take (i + 1) = (gapsL (dursum (inMode v.e j)) (sentL (inMode v.e j) d)).take i ++ [((sentL (inMode v.e j) d).map Sd.st).getD (i + 1) 0 - ((sentL (inMode v.e j) d).map Sd.st).getD i 0] from by
    rw [take_getD (by rw [gaps_len]; exact hi), ho.gaps_at hi, hget i hi, hget (i + 1) h1, gapAt, if_pos h1]))
  have HG2 := Lib.hid (fun i (hi : i < (sentL (inMode v.e j) d).length) (h1 : ¬ i + 1 < (sentL (inMode v.e j) d).length) => (show (gapsL (dursum (inMode v.e j)) (sentL (inMode v.e j) d)).take (i + 1) = (gapsL (dursum (inMode v.e j)) (sentL (inMode v.e j) d)).take i ++ [((sentL (inMode v.e j) d).map Sd.st).getD 0 0 + dursum (inMode v.e j) - ((sentL (inMode v.e j) d).map Sd.st).getD i 0] from by
    rw [take_getD (by rw [gaps_len]; exact hi), ho.gaps_at hi, hget i hi, hget 0 ho.ne, gapAt, if_neg h1]))
  have HAL := Lib.hid (show (gapsL (dursum (inMode v.e j)) (sentL (inMode v.e j) d)).take (sentL (inMode v.e j) d).length = gapsL (dursum (inMode v.e j)) (sentL (inMode v.e j) d) from List.take_of_length_le (by rw [gaps_len]; exact Nat.le_refl _))
  have HLN := Lib.hid (fun i => (by rw [List.length_take, gaps_len]; have := ho.le; omega : ((gapsL (dursum (inMode v.e j)) (sentL (inMode v.e j) d)).take i).length ≤ 120))
  have hne := ho.ne
  have hle := ho.le
  have hC := ho.c1
  have hC0 := ho.pos
  clear hget
  generalize (sentL (inMode v.e j) d).length = n at htl HBD HG1 HG2 HAL hne hle
  generalize gapsL (dursum (inMode v.e j)) (sentL (inMode v.e j) d) = G at HG1 HG2 HAL HLN ⊢
  generalize (sentL (inMode v.e j) d).map Sd.st = T at HTI htl HBD HG1 HG2
  generalize dursum (inMode v.e j) = C at HCY HG1 HG2 hC hC0
  clear ho hr hw hj
  unfold mvVal at HTI HCY ⊢
  go_enter Tryz.func91, Tryz.ntmps91
  go_upto_region 1 with fail
  generalize w.alloc (.cells #[.int .i64 v.id, .slice v.no v.n.length v.nc, .slice v.mo v.cs.length v.mc, .slice v.eo v.e.length v.ec] 28) = w1 at HX ⊢
  obtain ⟨z0, z1, z2, z3⟩ := HX.out.at_.all
  go_wp2_with fail
  refine (HTI.out _ HX.out.rd).mono ?_
  rintro e w2 ⟨tv, rfl, to1, b2⟩
  obtain ⟨ta, tc, rfl, to2, -⟩ := to1.get
  obtain ⟨ga, oa, rfl⟩ := own_some17 to2 (by omega)
  have HX2 := Lib.hid (HX.out.call b2)
  have HT2 := Lib.hid to2
  clear z0 z1 z2 z3 b2 HX HTI to1 to2
  obtain ⟨m0, hm0⟩ : ∃ m0, m0 = w.heap.size := ⟨_, rfl⟩
  rw [← hm0] at HX2 ⊢
  have HM0 := Lib.hid hm0
  clear hm0
  have bN := (Below.refl w2.heap.size w2).alloc (Nat.le_refl _) (.cells #[] 2)
  have HB3 := Lib.hid bN
  have HO3 := Lib.hid (Own.of_alloc_nil (E := 2) (w := w2) (base := w2.heap.size) (Nat.le_refl _))
  clear bN
  go_upto_region 3 with fail
  generalize w2.alloc (.cells #[] 2) = w3 at HB3 HO3 ⊢
  have HCELL := Lib.hid (fun i (hi : i < n) W (hW : Below w2.heap.size w2 W) => (show W.cell? ⟨ga, oa + i, none⟩ = some (.int .i64 (T.getD i 0)) from own_cell17 (HT2.out.below hW) (by omega)))
  go_wp2_with fail
  go_loopw [8, 9] (fun o i wr => ∃ i0 : Nat, i0 ≤ n ∧ i = .int .i64 i0 ∧ Hid (Below w2.heap.size w2 wr) ∧ Hid (Own 2 wr w2.heap.size o (G.take i0))) (fun _ i _ => n - (intOf i).toNat)
  case atStart => exact ⟨0, Nat.zero_le _, rfl, HB3, Lib.hid (by rw [List.take_zero]; exact HO3.out)⟩
  case round =>
    clear HB3 HO3
    obtain ⟨i, hi, rfl, HB, HO⟩ := hrel
    by_cases hlt : i < n
    · have hlti : (i : Int) < (n : Int) := by omega
      have h0i : (0 : Int) < (n : Int) := by omega
      have HX3 := Lib.hid (HX2.out.call HB.out)
      have HL2 := Lib.hid (HLN.out i)
      go_upto_region 6 with fail
      have HX4 := Lib.hid (HX3.out.call (Below.drew (Below.refl wr.heap.size wr)))
      have HB4 := Lib.hid (Below.drew HB.out)
      have HO4 := Lib.hid (HO.out.below (Below.drew (Below.refl wr.heap.size wr)))
      have hbt := HBD.out 0 hne
      have ht0 := HCELL.out 0 hne wr.drew HB4.out
      rw [Nat.add_zero] at ht0
      have hq : wr.drew.cell? ⟨m0, 0, none⟩ = some (.int .i64 v.id) ∧ wr.drew.cell? ⟨m0, 1, none⟩ = some (.slice v.no v.n.length v.nc) ∧ wr.drew.cell? ⟨m0, 2, none⟩ = some (.slice v.mo v.cs.length v.mc) ∧ wr.drew.cell? ⟨m0, 3, none⟩ = some (.slice v.eo v.e.length v.ec) ∧ wr.drew.cell? ⟨ga, oa, none⟩ = some (.int .i64 (T.getD 0 0)) := ⟨HX4.out.at_.all.1, HX4.out.at_.all.2.1, HX4.out.at_.all.2.2.1, HX4.out.at_.all.2.2.2, ht0⟩
      clear ht0 HX3 HB HO
      have HG2' := Lib.hid (fun h1 => HG2.out i hlt h1)
      have HG1' := Lib.hid (fun h1 => HG1.out i hlt h1)
      generalize T.getD 0 0 = t0 at hq hbt HG2'
      have hwt : IntKind.i64.wrap (t0 + C) = t0 + C := by rw [IntKind.wrap_i64]; omega
      refine wp_region_held_drew (S := fun w' => w'.cell? ⟨m0, 0, none⟩ = some (.int .i64 v.id) ∧ w'.cell? ⟨m0, 1, none⟩ = some (.slice v.no v.n.length v.nc) ∧ w'.cell? ⟨m0, 2, none⟩ = some (.slice v.mo v.cs.length v.mc) ∧ w'.cell? ⟨m0, 3, none⟩ = some (.slice v.eo v.e.length v.ec) ∧ w'.cell? ⟨ga, oa, none⟩ = some (.int .i64 t0)) (by kernel_rfl) (hq) (fun hHeld => ?_)
      generalize wr.drew = wd at HX4 HB4 HO4 hq hHeld ⊢
      refine wpAnyH_take (i := 0) (v := ?_) rfl (by kernel_rfl) (by kernel_rfl) (by kernel_rfl) (fun _ _ _ h => h) (Or.inl ⟨by rfl, ?_⟩) (by assumption) ?_
      rotate_left
      · (intro w hSw; (try dsimp only at hSw); go_simp; (try with_reducible rfl))
      try simp only [pa, pb, pc, Act.put, pe, pf, pg]
      refine wpAnyH_take (i := 1) (v := ?_) rfl (by kernel_rfl) (by kernel_rfl) (by kernel_rfl) (fun _ _ _ h => h) (Or.inl ⟨by rfl, ?_⟩) (by assumption) ?_
      rotate_left
      · (intro w hSw; (try dsimp only at hSw); go_simp; (try with_reducible rfl))
      try simp only [pa, pb, pc, Act.put, pe, pf, pg]
      refine wpAnyH_take (i := 2) (v := ?_) rfl (by kernel_rfl) (by kernel_rfl) (by kernel_rfl) (fun _ _ _ h => h) (Or.inl ⟨by rfl, ?_⟩) (by assumption) ?_
      rotate_left
      · (intro w hSw; (try dsimp only at hSw); go_simp; (try with_reducible rfl))
      try simp only [pa, pb, pc, Act.put, pe, pf, pg]
      refine wpAnyH_take (i := 3) (v := ?_) rfl (by kernel_rfl) (by kernel_rfl) (by kernel_rfl) (fun _ _ _ h => h) (Or.inl ⟨by rfl, ?_⟩) (by assumption) ?_
      rotate_left
      · (intro w hSw; (try dsimp only at hSw); go_simp; (try with_reducible rfl))
      try simp only [pa, pb, pc, Act.put, pe, pf, pg]
      refine wpAnyH_take (i := 4) (v := ?_) rfl (by kernel_rfl) (by kernel_rfl) (by kernel_rfl) (fun _ _ _ h => h) (Or.inl ⟨by rfl, ?_⟩) (by assumption) ?_
      rotate_left
      · (intro w hSw; (try dsimp only at hSw); go_simp; (try with_reducible rfl))
      try simp only [pa, pb, pc, Act.put, pe, pf, pg]
      refine wpAnyH_ready (rs := [5]) (by kernel_rfl) (by simp) (AllReadyH.cons rfl (fun K hK => ?_) AllReadyH.nil)
      go_simp
      refine (HCY.out wd HX4.out.rd).mono ?_
      rintro e w5 ⟨rfl, b5⟩
      have HX5 := Lib.hid (HX4.out.call b5)
      have HB5 := Lib.hid (below_two HB4.out b5)
      have HO5 := Lib.hid (HO4.out.below b5)
      have hlbd := World.block_lt_of_cell? wd _ hq.2.2.2.2
      have hqn : w5.cell? ⟨m0, 0, none⟩ = some (.int .i64 v.id) ∧ w5.cell? ⟨m0, 1, none⟩ = some (.slice v.no v.n.length v.nc) ∧ w5.cell? ⟨m0, 2, none⟩ = some (.slice v.mo v.cs.length v.mc) ∧ w5.cell? ⟨m0, 3, none⟩ = some (.slice v.eo v.e.length v.ec) ∧ w5.cell? ⟨ga, oa, none⟩ = some (.int .i64 t0) := ⟨HX5.out.at_.all.1, HX5.out.at_.all.2.1, HX5.out.at_.all.2.2.1, HX5.out.at_.all.2.2.2, (b5.cell (p := ⟨ga, oa, none⟩) hlbd).trans hq.2.2.2.2⟩
      clear b5 hq HX4 HB4 HO4 hlbd
      go_wp2_with fail
      refine hK.out _ _ ?_ (fun hHeld => ?_)
      · exact hqn
      clear hK K
      try simp only [pa, pb, pc, Act.put, pe, pf, pg]
      refine wpAnyH_take (i := 6) (v := ?_) rfl (by kernel_rfl) (by kernel_rfl) (by kernel_rfl) (fun _ _ _ h => h) (Or.inl ⟨by rfl, ?_⟩) (by assumption) ?_
      rotate_left
      · (intro w hSw; (try dsimp only at hSw); go_simp; (try with_reducible rfl))
      try simp only [pa, pb, pc, Act.put, pe, pf, pg]
      refine wpAnyH_take (i := 7) (v := ?_) rfl (by kernel_rfl) (by kernel_rfl) (by kernel_rfl) (fun _ _ _ h => h) (Or.inl ⟨by rfl, ?_⟩) (by assumption) ?_
      rotate_left
      · (intro w hSw; (try dsimp only at hSw); go_simp; (try with_reducible rfl))
      try simp only [pa, pb, pc, Act.put, pe, pf, pg]
      refine wpAnyH_done (by kernel_rfl) ?_ _
      clear hqn
      by_cases h1 : i + 1 < n
      · have h1i : (i : Int) + 1 < (n : Int) := by omega
        have HN := Lib.hid (HG1'.out h1)
        have x2 := HCELL.out (i + 1) h1 w5 HB5.out
        have hbj := HBD.out (i + 1) h1
        have hwi : IntKind.i64.wrap ((i : Int) + 1) = (i : Int) + 1 := by rw [IntKind.wrap_i64]; omega
        have htn : ((i : Int) + 1).toNat = i + 1 := by omega
        have h0p : (0 : Int) ≤ (i : Int) + 1 := by omega
        clear HG1' HG2'
        generalize T.getD (i + 1) 0 = tj at x2 hbj HN
        go_upto_region 9 with fail
        have x1 := HCELL.out i hlt w5 HB5.out
        have hbi := HBD.out i hlt
        generalize T.getD i 0 = ti at x1 hbi HN
        have hww : IntKind.i64.wrap (tj - ti) = tj - ti := by rw [IntKind.wrap_i64]; omega
        generalize hzz : tj - ti = z at hww HN
        have bl1 := (Below.refl w5.heap.size w5).alloc (Nat.le_refl _) (.cells #[.int .i64 z] 2)
        have HB6 := Lib.hid (below_two HB5.out bl1)
        have HO6 := Lib.hid (HO5.out.below bl1)
        have hnc : (w5.alloc (.cells #[.int .i64 z] 2)).cell? ⟨w5.heap.size, 0, none⟩ = some (.int .i64 z) := by simp
        clear bl1 HB5 HO5 HX5
        go_wp2_with (at_builtin; refine append_g _ rfl (.tmp 39) (.tmp 46) rfl w2.heap.size Tryz.underlying53 info64 _ _ rfl HO6.out _ z _ rfl (by first | exact hnc | (rw [← hzz]; simp)) (by have := HL2.out; omega) HB6.out.size ?_; intro v9 w10 o9 g9)
        have HB7 := Lib.hid (HB6.out.grown g9 HB6.out.size (fun k hk => (HO6.out.block k hk).1))
        have HO7 := Lib.hid o9
        clear o9 g9 HB6 HO6 x1 hnc
        go_wp2_with fail
        go_roundw
        case rel => exact ⟨i + 1, by omega, by go_num, HB7, Lib.hid (by rw [HN.out]; exact HO7.out)⟩
        case measure => simp [intOf]; omega
      · have h1i : ¬ (i : Int) + 1 < (n : Int) := by omega
        have HN := Lib.hid (HG2'.out h1)
        have hwi : IntKind.i64.wrap ((i : Int) + 1) = (i : Int) + 1 := by rw [IntKind.wrap_i64]; omega
        clear HG1' HG2'
        go_upto_region 9 with fail
        have x1 := HCELL.out i hlt w5 HB5.out
        have hbi := HBD.out i hlt
        generalize T.getD i 0 = ti at x1 hbi HN
        have hww : IntKind.i64.wrap ((t0 + C) - ti) = (t0 + C) - ti := by rw [IntKind.wrap_i64]; omega
        generalize hzz : (t0 + C) - ti = z at hww HN
        have bl1 := (Below.refl w5.heap.size w5).alloc (Nat.le_refl _) (.cells #[.int .i64 z] 2)
        have HB6 := Lib.hid (below_two HB5.out bl1)
        have HO6 := Lib.hid (HO5.out.below bl1)
        have hnc : (w5.alloc (.cells #[.int .i64 z] 2)).cell? ⟨w5.heap.size, 0, none⟩ = some (.int .i64 z) := by simp
        clear bl1 HB5 HO5 HX5
        go_wp2_with (at_builtin; refine append_g _ rfl (.tmp 39) (.tmp 46) rfl w2.heap.size Tryz.underlying53 info64 _ _ rfl HO6.out _ z _ rfl (by first | exact hnc | (rw [← hzz]; simp)) (by have := HL2.out; omega) HB6.out.size ?_; intro v9 w10 o9 g9)
        have HB7 := Lib.hid (HB6.out.grown g9 HB6.out.size (fun k hk => (HO6.out.block k hk).1))
        have HO7 := Lib.hid o9
        clear o9 g9 HB6 HO6 x1 hnc
        go_wp2_with fail
        go_roundw
        case rel => exact ⟨i + 1, by omega, by go_num, HB7, Lib.hid (by rw [HN.out]; exact HO7.out)⟩
        case measure => simp [intOf]; omega
    · have hkn : i = n := by omega
      subst hkn
      go_wp2_with fail
      go_ret
      exact ⟨_, rfl, by rw [← HAL.out]; exact HO.out.more (by have := HX2.out.below.size; omega), below_two HX2.out.below HB.out⟩
end

section
open Go.RowKit
theorem size_step {e : List Sl} {j : Nat} {nd : Int} {k : Nat} (hk : k < e.length) : sizeSum (sentTo (inMode e j) nd (inMode (e.take (k + 1)) j).length) = if (slOf e k).mode = (j : Int) ∧ (slOf e k).desc.node = nd then sizeSum (sentTo (inMode e j) nd (inMode (e.take k) j).length) + (slOf e k).desc.size else sizeSum (sentTo (inMode e j) nd (inMode (e.take k) j).length) := by
  rw [inMode_next hk]
  by_cases h : (slOf e k).mode = (j : Int)
  · obtain ⟨h1, h2, -⟩ := inMode_at hk h
    rw [if_pos h, List.length_append, List.length_singleton, sentTo, h2, sizeSum_app]
    by_cases h3 : (slOf e k).desc.node = nd
    · rw [if_pos h3, if_pos ⟨h, h3⟩]
      simp [sizeSum]
    · rw [if_neg h3, if_neg (fun c => h3 c.2)]
      simp [sizeSum]
  · rw [if_neg h, if_neg (fun c => h c.1)]
theorem size_bound {m : Me} (W : Well m) {j : Nat} {nd : Int} (k : Nat) : 0 ≤ sizeSum (sentTo (inMode m.slots j) nd (inMode (m.slots.take k) j).length) ∧ sizeSum (sentTo (inMode m.slots j) nd (inMode (m.slots.take k) j).length) ≤ 10000 := by
  have hle : (inMode (m.slots.take k) j).length ≤ (inMode m.slots j).length := by
    have e : inMode m.slots j = inMode (m.slots.take k) j ++ inMode (m.slots.drop k) j := by
      conv => lhs; rw [← List.take_append_drop k m.slots]
      unfold inMode
      rw [List.filter_append]
    rw [e, List.length_append]
    omega
  obtain ⟨R, e⟩ := sent_split (node := nd) hle
  have hs := sent_size W (j := j) (n := nd)
  have hs : ∀ x ∈ sentL (inMode m.slots j) nd, 0 ≤ x.d.size ∧ x.d.size ≤ 64 := hs
  have hl : (sentL (inMode m.slots j) nd).length ≤ 120 := Nat.le_trans (sentTo_len _ _ _) (Nat.le_trans (inMode_le _ _) (isSls_iff.1 W.r4).1)
  have := size_in17 hs hl (sentTo (inMode m.slots j) nd (inMode (m.slots.take k) j).length).length
  rw [e, List.take_left'] at this
  · exact this
  · rfl
theorem cell_step {e : List Sl} {j k : Nat} (hk : k < e.length) : cellSum (inMode (e.take (k + 1)) j) = if (slOf e k).mode = (j : Int) then cellSum (inMode (e.take k) j) + cellsOf8 (slOf e k).desc.kind (slOf e k).desc.size else cellSum (inMode (e.take k) j) := by
  rw [inMode_next hk]
  by_cases h : (slOf e k).mode = (j : Int)
  · rw [if_pos h, if_pos h, cellSum_app]; simp [cellSum]
  · rw [if_neg h, if_neg h]
theorem cell_bound {e : List Sl} (h : isSls e = true) (j k : Nat) : 0 ≤ cellSum (inMode (e.take k) j) ∧ cellSum (inMode (e.take k) j) ≤ 100000 := by
  have h1 := cellSum_in (inMode (e.take k) j)
  have h2 := inMode_le (e.take k) j
  have h3 := (isSls_iff.1 h).1
  rw [List.length_take] at h2
  omega
def lowM (t : List Sl) : Int := (t.map pauseSl).foldl min 1000
theorem low_step {e : List Sl} {j k : Nat} (hk : k < e.length) : lowM (inMode (e.take (k + 1)) j) = if (slOf e k).mode = (j : Int) then min (lowM (inMode (e.take k) j)) (pauseSl (slOf e k)) else lowM (inMode (e.take k) j) := by
  rw [inMode_next hk]
  by_cases h : (slOf e k).mode = (j : Int)
  · rw [if_pos h, if_pos h]
    unfold lowM
    rw [List.map_append, List.foldl_append]
    rfl
  · rw [if_neg h, if_neg h]
theorem low_bound {e : List Sl} (h : isSls e = true) (j k : Nat) : 0 ≤ lowM (inMode (e.take k) j) ∧ lowM (inMode (e.take k) j) ≤ 1000 := by
  have key := min_fold ((inMode (e.take k) j).map pauseSl) 1000
  unfold lowM
  obtain ⟨h1, -, h3⟩ := key
  refine ⟨?_, h1⟩
  rcases h3 with h3 | h3
  · rw [h3]; omega
  · obtain ⟨x, hx, ex⟩ := List.mem_map.1 h3
    have := (pause_in h (List.mem_of_mem_take (inMode_sub hx))).2
    omega
theorem low_end {e : List Sl} (h : isSls e = true) {j : Nat} (h0 : 0 < (inMode e j).length) : lowM (inMode (e.take e.length) j) = lowL ((inMode e j).map pauseSl) := by
  rw [List.take_length]
  unfold lowM
  refine min_fold_low (by simpa using h0) fun y hy => ?_
  obtain ⟨x, hx, rfl⟩ := List.mem_map.1 hy
  exact (pause_in h (inMode_sub hx)).2.2
set_option linter.unusedSimpArgs false in
set_option maxRecDepth 100000 in
set_option maxHeartbeats 4000000 in
theorem sGapsOf_any (v : Mv) (k d : Int) (w : World) (hr : RdMe w v) :
    Calls Tryz.prog 37 #[mvVal v, .int .i64 k, .int .i64 d] w (Makes2 2 w (gapsOf v.me k d).1 (gapsOf v.me k d).2) := by
  have HX := Lib.hid (Bx.start (T := 28) hr)
  have HTM := Lib.hid (fun bo k0 kc W (hW : RdMe W v) (hd : Rd W bo k0 [d]) (hk1 : 0 < k0) (hk0 : k0 ≤ 1048576) => l17Code_any v k bo k0 kc [d] W hW hd hk1 hk0)
  by_cases hc : codeAn v.me k [d] = 0
  rotate_left
  · rw [show gapsOf v.me k d = ([], codeAn v.me k [d]) from by unfold gapsOf; rw [if_neg hc]]
    have hcb : (codeAn v.me k [d] != 0) = true := by simp [hc]
    generalize codeAn v.me k [d] = cc at HTM hcb ⊢
    clear hr hc
    unfold mvVal at HTM ⊢
    go_enter Tryz.func37, Tryz.ntmps37
    go_upto_region 1 with fail
    generalize w.alloc (.cells #[.int .i64 v.id, .slice v.no v.n.length v.nc, .slice v.mo v.cs.length v.mc, .slice v.eo v.e.length v.ec] 28) = w1 at HX ⊢
    obtain ⟨z0, z1, z2, z3⟩ := HX.out.at_.all
    have bN := (Below.refl w1.heap.size w1).alloc (Nat.le_refl _) (.cells #[.int .i64 d] 2)
    have HX2 := Lib.hid (HX.out.call bN)
    have HD2 := Lib.hid (rd_one 2 d w1)
    clear bN
    go_wp2_with fail
    refine (HTM.out _ _ _ _ HX2.out.rd HD2.out (by omega) (by omega)).mono ?_
    rintro e w3 ⟨rfl, b3⟩
    have HX3 := Lib.hid (HX2.out.call b3)
    clear b3 z0 z1 z2 z3 HX HX2 HD2
    go_wp2_with fail
    go_ret2
    exact ⟨_, rfl, Own.nil_, HX3.out.below⟩
  rw [show gapsOf v.me k d = (gapsL (cyc17 v.me k) (sent17 v.me k d), 0) from by unfold gapsOf; rw [if_pos hc]]
  obtain ⟨⟨j, rfl, hj, W⟩, hns⟩ := an_yes hc
  obtain ⟨nd, rfl, hn32, ho, -⟩ := hns d (by simp)
  have ho : SdOk (dursum (inMode v.e j)) (sentL (inMode v.e j) (nd : Int)) := ho
  rw [hc] at HTM
  rw [show gapsL (cyc17 v.me (j : Int)) (sent17 v.me (j : Int) (nd : Int)) = gapsL (dursum (inMode v.e j)) (sentL (inMode v.e j) (nd : Int)) from rfl]
  have HGA := Lib.hid (fun W' (hW : RdMe W' v) => l17Gaps_any v j (nd : Int) W' hW W hj ho)
  generalize gapsL (dursum (inMode v.e j)) (sentL (inMode v.e j) (nd : Int)) = G at HGA ⊢
  clear hr hc hj W hns ho
  unfold mvVal at HTM HGA ⊢
  go_enter Tryz.func37, Tryz.ntmps37
  go_upto_region 1 with fail
  generalize w.alloc (.cells #[.int .i64 v.id, .slice v.no v.n.length v.nc, .slice v.mo v.cs.length v.mc, .slice v.eo v.e.length v.ec] 28) = w1 at HX ⊢
  obtain ⟨z0, z1, z2, z3⟩ := HX.out.at_.all
  have bN := (Below.refl w1.heap.size w1).alloc (Nat.le_refl _) (.cells #[.int .i64 (nd : Int)] 2)
  have HX2 := Lib.hid (HX.out.call bN)
  have HD2 := Lib.hid (rd_one 2 (nd : Int) w1)
  clear bN
  go_wp2_with fail
  refine (HTM.out _ _ _ _ HX2.out.rd HD2.out (by omega) (by omega)).mono ?_
  rintro e w3 ⟨rfl, b3⟩
  have HX3 := Lib.hid (HX2.out.call b3)
  clear b3 z0 z1 z2 z3 HX HX2 HD2
  obtain ⟨z0, z1, z2, z3⟩ := HX3.out.at_.all
  go_wp2_with fail
  refine (HGA.out _ HX3.out.rd).mono ?_
  rintro e w4 ⟨gv, rfl, go1, b4⟩
  obtain ⟨ga, gc, rfl, go2, gr⟩ := go1.get
  have HB4 := Lib.hid (HX3.out.call b4).below
  have HO4 := Lib.hid (Own.more go2 HX3.out.below.size)
  have HR4 := Lib.hid gr
  clear z0 z1 z2 z3 b4 go1 go2 gr HX3
  go_wp2_with fail
  go_ret2
  exact ⟨_, rfl, HO4.out, HB4.out⟩
set_option linter.unusedSimpArgs false in
set_option maxRecDepth 100000 in
set_option maxHeartbeats 4000000 in
theorem sWorstGap_any (v : Mv) (k d : Int) (w : World) (hr : RdMe w v) :
    Calls Tryz.prog 39 #[mvVal v, .int .i64 k, .int .i64 d] w fun e w' => e = .returned (.tuple #[.int .i64 (worstGap v.me k d).1, .int .i64 (worstGap v.me k d).2]) ∧ Below w.heap.size w w' := by
  have HX := Lib.hid (Bx.start (T := 28) hr)
  have HTM := Lib.hid (fun bo k0 kc W (hW : RdMe W v) (hd : Rd W bo k0 [d]) (hk1 : 0 < k0) (hk0 : k0 ≤ 1048576) => l17Code_any v k bo k0 kc [d] W hW hd hk1 hk0)
  by_cases hc : codeAn v.me k [d] = 0
  rotate_left
  · rw [show worstGap v.me k d = (0, codeAn v.me k [d]) from by unfold worstGap; rw [if_neg hc]]
    have hcb : (codeAn v.me k [d] != 0) = true := by simp [hc]
    generalize codeAn v.me k [d] = cc at HTM hcb ⊢
    clear hr hc
    unfold mvVal at HTM ⊢
    go_enter Tryz.func39, Tryz.ntmps39
    go_upto_region 1 with fail
    generalize w.alloc (.cells #[.int .i64 v.id, .slice v.no v.n.length v.nc, .slice v.mo v.cs.length v.mc, .slice v.eo v.e.length v.ec] 28) = w1 at HX ⊢
    obtain ⟨z0, z1, z2, z3⟩ := HX.out.at_.all
    have bN := (Below.refl w1.heap.size w1).alloc (Nat.le_refl _) (.cells #[.int .i64 d] 2)
    have HX2 := Lib.hid (HX.out.call bN)
    have HD2 := Lib.hid (rd_one 2 d w1)
    clear bN
    go_wp2_with fail
    refine (HTM.out _ _ _ _ HX2.out.rd HD2.out (by omega) (by omega)).mono ?_
    rintro e w3 ⟨rfl, b3⟩
    have HX3 := Lib.hid (HX2.out.call b3)
    clear b3 z0 z1 z2 z3 HX HX2 HD2
    go_wp2_with fail
    go_ret2
    exact ⟨rfl, HX3.out.below⟩
  rw [show worstGap v.me k d = (topL (gapsL (cyc17 v.me k) (sent17 v.me k d)), 0) from by unfold worstGap; rw [if_pos hc]]
  obtain ⟨⟨j, rfl, hj, W⟩, hns⟩ := an_yes hc
  obtain ⟨nd, rfl, hn32, ho, -⟩ := hns d (by simp)
  have ho : SdOk (dursum (inMode v.e j)) (sentL (inMode v.e j) (nd : Int)) := ho
  rw [hc] at HTM
  rw [show gapsL (cyc17 v.me (j : Int)) (sent17 v.me (j : Int) (nd : Int)) = gapsL (dursum (inMode v.e j)) (sentL (inMode v.e j) (nd : Int)) from rfl]
  have HGA := Lib.hid (fun W' (hW : RdMe W' v) => l17Gaps_any v j (nd : Int) W' hW W hj ho)
  have hgl : 0 < (gapsL (dursum (inMode v.e j)) (sentL (inMode v.e j) (nd : Int))).length := by rw [gaps_len]; exact ho.ne
  have hgl2 : (gapsL (dursum (inMode v.e j)) (sentL (inMode v.e j) (nd : Int))).length ≤ 1000 := by rw [gaps_len]; have := ho.le; omega
  have hz1 := ho.gaps_bound ho.top_in.1
  have hz2 := ho.gaps_bound ho.low_in.1
  have hcc := ho.c1
  generalize gapsL (dursum (inMode v.e j)) (sentL (inMode v.e j) (nd : Int)) = G at HGA hgl hgl2 hz1 hz2 ⊢
  have HEN := Lib.hid (fun ao cap W (hW : Rd W ao G.length G) => l17Ends_any ao G.length cap G W hW hgl hgl2)
  generalize topL G = z1 at HEN hz1 ⊢
  generalize lowL G = z2 at HEN hz2 ⊢
  have hww : IntKind.i64.wrap (z1 - z2) = z1 - z2 := by rw [IntKind.wrap_i64]; omega
  generalize dursum (inMode v.e j) = C9 at hz1 hz2 hcc
  clear hr hc hj W hns ho hz1 hz2 hcc
  unfold mvVal at HTM HGA ⊢
  go_enter Tryz.func39, Tryz.ntmps39
  go_upto_region 1 with fail
  generalize w.alloc (.cells #[.int .i64 v.id, .slice v.no v.n.length v.nc, .slice v.mo v.cs.length v.mc, .slice v.eo v.e.length v.ec] 28) = w1 at HX ⊢
  obtain ⟨z0, z1, z2, z3⟩ := HX.out.at_.all
  have bN := (Below.refl w1.heap.size w1).alloc (Nat.le_refl _) (.cells #[.int .i64 (nd : Int)] 2)
  have HX2 := Lib.hid (HX.out.call bN)
  have HD2 := Lib.hid (rd_one 2 (nd : Int) w1)
  clear bN
  go_wp2_with fail
  refine (HTM.out _ _ _ _ HX2.out.rd HD2.out (by omega) (by omega)).mono ?_
  rintro e w3 ⟨rfl, b3⟩
  have HX3 := Lib.hid (HX2.out.call b3)
  clear b3 z0 z1 z2 z3 HX HX2 HD2
  obtain ⟨z0, z1, z2, z3⟩ := HX3.out.at_.all
  go_wp2_with fail
  refine (HGA.out _ HX3.out.rd).mono ?_
  rintro e w4 ⟨gv, rfl, go1, b4⟩
  obtain ⟨ga, gc, rfl, go2, gr⟩ := go1.get
  have HB4 := Lib.hid (HX3.out.call b4).below
  have HO4 := Lib.hid (Own.more go2 HX3.out.below.size)
  have HR4 := Lib.hid gr
  clear z0 z1 z2 z3 b4 go1 go2 gr HX3
  go_wp2_with fail
  refine (HEN.out _ _ _ HR4.out).mono ?_
  rintro e w5 ⟨rfl, b5⟩
  go_wp2_with fail
  go_ret2
  exact ⟨rfl, below_two HB4.out b5⟩
set_option linter.unusedSimpArgs false in
set_option maxRecDepth 100000 in
set_option maxHeartbeats 4000000 in
theorem sJitterOf_any (v : Mv) (k d : Int) (w : World) (hr : RdMe w v) :
    Calls Tryz.prog 41 #[mvVal v, .int .i64 k, .int .i64 d] w fun e w' => e = .returned (.tuple #[.int .i64 (jitterOf v.me k d).1, .int .i64 (jitterOf v.me k d).2]) ∧ Below w.heap.size w w' := by
  have HX := Lib.hid (Bx.start (T := 28) hr)
  have HTM := Lib.hid (fun bo k0 kc W (hW : RdMe W v) (hd : Rd W bo k0 [d]) (hk1 : 0 < k0) (hk0 : k0 ≤ 1048576) => l17Code_any v k bo k0 kc [d] W hW hd hk1 hk0)
  by_cases hc : codeAn v.me k [d] = 0
  rotate_left
  · rw [show jitterOf v.me k d = (0, codeAn v.me k [d]) from by unfold jitterOf; rw [if_neg hc]]
    have hcb : (codeAn v.me k [d] != 0) = true := by simp [hc]
    generalize codeAn v.me k [d] = cc at HTM hcb ⊢
    clear hr hc
    unfold mvVal at HTM ⊢
    go_enter Tryz.func41, Tryz.ntmps41
    go_upto_region 1 with fail
    generalize w.alloc (.cells #[.int .i64 v.id, .slice v.no v.n.length v.nc, .slice v.mo v.cs.length v.mc, .slice v.eo v.e.length v.ec] 28) = w1 at HX ⊢
    obtain ⟨z0, z1, z2, z3⟩ := HX.out.at_.all
    have bN := (Below.refl w1.heap.size w1).alloc (Nat.le_refl _) (.cells #[.int .i64 d] 2)
    have HX2 := Lib.hid (HX.out.call bN)
    have HD2 := Lib.hid (rd_one 2 d w1)
    clear bN
    go_wp2_with fail
    refine (HTM.out _ _ _ _ HX2.out.rd HD2.out (by omega) (by omega)).mono ?_
    rintro e w3 ⟨rfl, b3⟩
    have HX3 := Lib.hid (HX2.out.call b3)
    clear b3 z0 z1 z2 z3 HX HX2 HD2
    go_wp2_with fail
    go_ret2
    exact ⟨rfl, HX3.out.below⟩
  rw [show jitterOf v.me k d = (topL (gapsL (cyc17 v.me k) (sent17 v.me k d)) - lowL (gapsL (cyc17 v.me k) (sent17 v.me k d)), 0) from by unfold jitterOf; rw [if_pos hc]]
  obtain ⟨⟨j, rfl, hj, W⟩, hns⟩ := an_yes hc
  obtain ⟨nd, rfl, hn32, ho, -⟩ := hns d (by simp)
  have ho : SdOk (dursum (inMode v.e j)) (sentL (inMode v.e j) (nd : Int)) := ho
  rw [hc] at HTM
  rw [show gapsL (cyc17 v.me (j : Int)) (sent17 v.me (j : Int) (nd : Int)) = gapsL (dursum (inMode v.e j)) (sentL (inMode v.e j) (nd : Int)) from rfl]
  have HGA := Lib.hid (fun W' (hW : RdMe W' v) => l17Gaps_any v j (nd : Int) W' hW W hj ho)
  have hgl : 0 < (gapsL (dursum (inMode v.e j)) (sentL (inMode v.e j) (nd : Int))).length := by rw [gaps_len]; exact ho.ne
  have hgl2 : (gapsL (dursum (inMode v.e j)) (sentL (inMode v.e j) (nd : Int))).length ≤ 1000 := by rw [gaps_len]; have := ho.le; omega
  have hz1 := ho.gaps_bound ho.top_in.1
  have hz2 := ho.gaps_bound ho.low_in.1
  have hcc := ho.c1
  generalize gapsL (dursum (inMode v.e j)) (sentL (inMode v.e j) (nd : Int)) = G at HGA hgl hgl2 hz1 hz2 ⊢
  have HEN := Lib.hid (fun ao cap W (hW : Rd W ao G.length G) => l17Ends_any ao G.length cap G W hW hgl hgl2)
  generalize topL G = z1 at HEN hz1 ⊢
  generalize lowL G = z2 at HEN hz2 ⊢
  have hww : IntKind.i64.wrap (z1 - z2) = z1 - z2 := by rw [IntKind.wrap_i64]; omega
  generalize dursum (inMode v.e j) = C9 at hz1 hz2 hcc
  clear hr hc hj W hns ho hz1 hz2 hcc
  unfold mvVal at HTM HGA ⊢
  go_enter Tryz.func41, Tryz.ntmps41
  go_upto_region 1 with fail
  generalize w.alloc (.cells #[.int .i64 v.id, .slice v.no v.n.length v.nc, .slice v.mo v.cs.length v.mc, .slice v.eo v.e.length v.ec] 28) = w1 at HX ⊢
  obtain ⟨z0, z1, z2, z3⟩ := HX.out.at_.all
  have bN := (Below.refl w1.heap.size w1).alloc (Nat.le_refl _) (.cells #[.int .i64 (nd : Int)] 2)
  have HX2 := Lib.hid (HX.out.call bN)
  have HD2 := Lib.hid (rd_one 2 (nd : Int) w1)
  clear bN
  go_wp2_with fail
  refine (HTM.out _ _ _ _ HX2.out.rd HD2.out (by omega) (by omega)).mono ?_
  rintro e w3 ⟨rfl, b3⟩
  have HX3 := Lib.hid (HX2.out.call b3)
  clear b3 z0 z1 z2 z3 HX HX2 HD2
  obtain ⟨z0, z1, z2, z3⟩ := HX3.out.at_.all
  go_wp2_with fail
  refine (HGA.out _ HX3.out.rd).mono ?_
  rintro e w4 ⟨gv, rfl, go1, b4⟩
  obtain ⟨ga, gc, rfl, go2, gr⟩ := go1.get
  have HB4 := Lib.hid (HX3.out.call b4).below
  have HO4 := Lib.hid (Own.more go2 HX3.out.below.size)
  have HR4 := Lib.hid gr
  clear z0 z1 z2 z3 b4 go1 go2 gr HX3
  go_wp2_with fail
  refine (HEN.out _ _ _ HR4.out).mono ?_
  rintro e w5 ⟨rfl, b5⟩
  go_wp2_with fail
  go_ret2
  exact ⟨rfl, below_two HB4.out b5⟩
set_option linter.unusedSimpArgs false in
set_option maxRecDepth 100000 in
set_option maxHeartbeats 4000000 in
theorem sPayloadOf_any (v : Mv) (k d : Int) (w : World) (hr : RdMe w v) :
    Calls Tryz.prog 51 #[mvVal v, .int .i64 k, .int .i64 d] w fun e w' => e = .returned (.tuple #[.int .i64 (payloadOf v.me k d).1, .int .i64 (payloadOf v.me k d).2]) ∧ Below w.heap.size w w' := by
  have HX := Lib.hid (Bx.start (T := 28) hr)
  have HTM := Lib.hid (fun bo k0 kc W (hW : RdMe W v) (hd : Rd W bo k0 [d]) (hk1 : 0 < k0) (hk0 : k0 ≤ 1048576) => l17Code_any v k bo k0 kc [d] W hW hd hk1 hk0)
  by_cases hc : codeAn v.me k [d] = 0
  rotate_left
  · rw [show payloadOf v.me k d = (0, codeAn v.me k [d]) from by unfold payloadOf; rw [if_neg hc]]
    have hcb : (codeAn v.me k [d] != 0) = true := by simp [hc]
    generalize codeAn v.me k [d] = cc at HTM hcb ⊢
    clear hr hc
    unfold mvVal at HTM ⊢
    go_enter Tryz.func51, Tryz.ntmps51
    go_upto_region 1 with fail
    generalize w.alloc (.cells #[.int .i64 v.id, .slice v.no v.n.length v.nc, .slice v.mo v.cs.length v.mc, .slice v.eo v.e.length v.ec] 28) = w1 at HX ⊢
    obtain ⟨z0, z1, z2, z3⟩ := HX.out.at_.all
    have bN := (Below.refl w1.heap.size w1).alloc (Nat.le_refl _) (.cells #[.int .i64 d] 2)
    have HX2 := Lib.hid (HX.out.call bN)
    have HD2 := Lib.hid (rd_one 2 d w1)
    clear bN
    go_wp2_with fail
    refine (HTM.out _ _ _ _ HX2.out.rd HD2.out (by omega) (by omega)).mono ?_
    rintro e w3 ⟨rfl, b3⟩
    have HX3 := Lib.hid (HX2.out.call b3)
    clear b3 z0 z1 z2 z3 HX HX2 HD2
    go_wp2_with fail
    go_ret2
    exact ⟨rfl, HX3.out.below⟩
  rw [show payloadOf v.me k d = (sizeSum (sent17 v.me k d), 0) from by unfold payloadOf; rw [if_pos hc]]
  obtain ⟨⟨j, rfl, hj, W⟩, hns⟩ := an_yes hc
  obtain ⟨nd, rfl, hn32, ho, -⟩ := hns d (by simp)
  have ho : SdOk (dursum (inMode v.e j)) (sentL (inMode v.e j) (nd : Int)) := ho
  rw [hc] at HTM
  have HS := Lib.hid (fun k (hk : k < v.e.length) => size_step (e := v.e) (j := j) (nd := (nd : Int)) hk)
  have HBD := Lib.hid (fun k => (show 0 ≤ sizeSum (sentTo (inMode v.e j) (nd : Int) (inMode (v.e.take k) j).length) ∧ sizeSum (sentTo (inMode v.e j) (nd : Int) (inMode (v.e.take k) j).length) ≤ 10000 from size_bound W k))
  have HE := Lib.hid (show sizeSum (sent17 v.me (j : Int) (nd : Int)) = sizeSum (sentTo (inMode v.e j) (nd : Int) (inMode (v.e.take v.e.length) j).length) from by rw [List.take_length]; rfl)
  have H0 := Lib.hid (show sizeSum (sentTo (inMode v.e j) (nd : Int) (inMode (v.e.take 0) j).length) = 0 from rfl)
  rw [HE.out]
  clear HE
  obtain ⟨F9, hF⟩ : ∃ F9 : Nat → Int, ∀ k, F9 k = sizeSum (sentTo (inMode v.e j) (nd : Int) (inMode (v.e.take k) j).length) := ⟨_, fun _ => rfl⟩
  simp only [← hF] at HS HBD H0 ⊢
  clear hF
  have hel := hr.el
  clear hr hc hj W hns ho
  unfold mvVal at HTM ⊢
  go_enter Tryz.func51, Tryz.ntmps51
  go_upto_region 1 with fail
  generalize w.alloc (.cells #[.int .i64 v.id, .slice v.no v.n.length v.nc, .slice v.mo v.cs.length v.mc, .slice v.eo v.e.length v.ec] 28) = w1 at HX ⊢
  obtain ⟨z0, z1, z2, z3⟩ := HX.out.at_.all
  have bN := (Below.refl w1.heap.size w1).alloc (Nat.le_refl _) (.cells #[.int .i64 (nd : Int)] 2)
  have HX2 := Lib.hid (HX.out.call bN)
  have HD2 := Lib.hid (rd_one 2 (nd : Int) w1)
  clear bN
  go_wp2_with fail
  refine (HTM.out _ _ _ _ HX2.out.rd HD2.out (by omega) (by omega)).mono ?_
  rintro e w3 ⟨rfl, b3⟩
  have HX3 := Lib.hid (HX2.out.call b3)
  clear b3 z0 z1 z2 z3 HX HX2 HD2
  go_wp2_with fail
  obtain ⟨m0, hm0⟩ : ∃ m0, m0 = w.heap.size := ⟨_, rfl⟩
  rw [← hm0] at HX3 ⊢
  have HM0 := Lib.hid hm0
  clear hm0
  go_loopw [9, 10] (fun s i wr => ∃ i0 : Nat, i0 ≤ v.e.length ∧ i = .int .i64 i0 ∧ s = .int .i64 (F9 i0) ∧ Hid (Bx 28 w wr m0 v)) (fun _ i _ => v.e.length - (intOf i).toNat)
  case atStart => exact ⟨0, Nat.zero_le _, rfl, by rw [H0.out], HX3⟩
  case round =>
    clear HX3
    obtain ⟨i, hi, rfl, rfl, HB⟩ := hrel
    obtain ⟨q0, q1, q2, q3⟩ := HB.out.at_.all
    by_cases hlt : i < v.e.length
    · have hlti : (i : Int) < (v.e.length : Int) := by omega
      obtain ⟨b, off, e0, hg, hx⟩ := HB.out.rd.re.at hlt
      rw [e0] at q3
      have HN := Lib.hid (HS.out i hlt)
      have h1 := HBD.out i
      have h2 := HBD.out (i + 1)
      generalize F9 i = z at HN h1 ⊢
      generalize slOf v.e i = y at hx HN
      obtain ⟨ym, yr, ys, yn, yk, yz, yd, yc⟩ := y
      obtain ⟨x0, x1, x2, x3, x4, x5, x6, x7⟩ := hx.all8
      (try dsimp only at x0 x1 x2 x3 x4 x5 x6 x7)
      replace HN : Hid (F9 (i + 1) = if ym = (j : Int) ∧ yn = (nd : Int) then z + yz else z) := HN
      by_cases hm : ym = (j : Int)
      · have hmb : (ym == (j : Int)) = true := by simp [hm]
        by_cases hn : yn = (nd : Int)
        · have hnb : (yn == (nd : Int)) = true := by simp [hn]
          have HN2 := Lib.hid (HN.out.trans (if_pos ⟨hm, hn⟩))
          rw [HN2.out] at h2
          have hww : IntKind.i64.wrap (z + yz) = z + yz := by rw [IntKind.wrap_i64]; omega
          clear HN hm hn hx e0
          go_wp2_with fail
          clear x0 x1 x2 x3 x4 x5 x6 x7 q0 q1 q2 q3
          go_roundw
          case rel => exact ⟨i + 1, by omega, by go_num, by rw [HN2.out], HB⟩
          case measure => simp [intOf]; omega
        · have hnb : (yn == (nd : Int)) = false := by simp [hn]
          have HN2 := Lib.hid (HN.out.trans (if_neg (fun c => hn c.2)))
          clear HN hm hn hx e0
          go_wp2_with fail
          clear x0 x1 x2 x3 x4 x5 x6 x7 q0 q1 q2 q3
          go_roundw
          case rel => exact ⟨i + 1, by omega, by go_num, by rw [HN2.out], HB⟩
          case measure => simp [intOf]; omega
      · have hmb : (ym == (j : Int)) = false := by simp [hm]
        have HN2 := Lib.hid (HN.out.trans (if_neg (fun c => hm c.1)))
        clear HN hm hx e0
        go_wp2_with fail
        clear x0 x1 x2 x3 x4 x5 x6 x7 q0 q1 q2 q3
        go_roundw
        case rel => exact ⟨i + 1, by omega, by go_num, by rw [HN2.out], HB⟩
        case measure => simp [intOf]; omega
    · have hkn : i = v.e.length := by omega
      subst hkn
      go_wp2_with fail
      go_ret2
      exact ⟨rfl, HB.out.below⟩
set_option linter.unusedSimpArgs false in
set_option maxRecDepth 100000 in
set_option maxHeartbeats 4000000 in
theorem sUseOf_any (v : Mv) (k : Int) (w : World) (hr : RdMe w v) :
    Calls Tryz.prog 46 #[mvVal v, .int .i64 k] w fun e w' => e = .returned (.tuple #[.int .i64 (useOf v.me k).1, .int .i64 (useOf v.me k).2]) ∧ Below w.heap.size w w' := by
  have HX := Lib.hid (Bx.start (T := 28) hr)
  have HC := Lib.hid (fun W hW => l13Mode_any v k W hW)
  by_cases hc : codeMe v.me k = 0
  rotate_left
  · rw [show useOf v.me k = (0, codeMe v.me k) from by unfold useOf; rw [show codeLm v.me k = codeMe v.me k from rfl, if_neg hc]]
    generalize codeMe v.me k = c at HC hc ⊢
    have hcb : (c != 0) = true := by simp [hc]
    clear hr hc
    unfold mvVal at HC ⊢
    go_enter Tryz.func46, Tryz.ntmps46
    go_upto_region 1 with fail
    generalize w.alloc (.cells #[.int .i64 v.id, .slice v.no v.n.length v.nc, .slice v.mo v.cs.length v.mc, .slice v.eo v.e.length v.ec] 28) = w1 at HX ⊢
    obtain ⟨z0, z1, z2, z3⟩ := HX.out.at_.all
    go_wp2_with fail
    refine (HC.out _ HX.out.rd).mono ?_
    rintro e w2 ⟨rfl, b2⟩
    clear z0 z1 z2 z3
    go_wp2_with fail
    go_ret2
    exact ⟨rfl, (HX.out.call b2).below⟩
  have hlm : codeLm v.me k = 0 := hc
  rw [hc] at HC
  obtain ⟨j, rfl, hj, hw⟩ := lm_yes hlm
  have hpos : 0 < (inMode v.e j).length := by
    have h2 := cyc_len (m := v.me) hw hj
    have b := md_bounds hw.r3 hj
    have : 1 * 1 ≤ (mdOf v.me.modes j).rounds.toNat * (mdOf v.me.modes j).slots.toNat := Nat.mul_le_mul (by omega) (by omega)
    have h2 : (inMode v.e j).length = (mdOf v.me.modes j).rounds.toNat * (mdOf v.me.modes j).slots.toNat := h2
    omega
  rw [show useOf v.me (j : Int) = (1000 * cellSum (cycK v.me (j : Int)) / cyc17 v.me (j : Int), 0) from by unfold useOf; rw [if_pos hlm]]
  have HS := Lib.hid (fun k (hk : k < v.e.length) => cell_step (e := v.e) (j := j) hk)
  have HBD := Lib.hid (fun k => cell_bound hw.r4 j k)
  change Hid (∀ k, 0 ≤ cellSum (inMode (v.e.take k) j) ∧ cellSum (inMode (v.e.take k) j) ≤ 100000) at HBD
  have HCY := Lib.hid (fun W (hW : RdMe W v) => l13Cycle_any v j W hW hw.r4)
  have hdz : 1 ≤ dursum (inMode v.e j) := by
    have h1 := dursum_in (t := inMode v.e j) (cyc_dur hw)
    omega
  have h9 := HBD.out v.e.length
  have HE := Lib.hid (show 1000 * cellSum (cycK v.me (j : Int)) / cyc17 v.me (j : Int) = (1000 * cellSum (inMode (v.e.take v.e.length) j)).tdiv (dursum (inMode v.e j)) from by rw [Int.tdiv_eq_ediv_of_nonneg (by omega), List.take_length]; rfl)
  have H0 := Lib.hid (show cellSum (inMode (v.e.take 0) j) = 0 from rfl)
  have HB9 := Lib.hid (fun i (hi : i < v.e.length) => (show isDesc (slOf v.e i).desc = true from (sl_bounds hw.r4 (slOf_mem hi)).2.2.2))
  generalize 1000 * cellSum (cycK v.me (j : Int)) / cyc17 v.me (j : Int) = R at HE ⊢
  obtain ⟨F9, hF⟩ : ∃ F9 : Nat → Int, ∀ k, F9 k = cellSum (inMode (v.e.take k) j) := ⟨_, fun _ => rfl⟩
  simp only [← hF] at HS HBD H0 HE h9
  clear hF
  generalize dursum (inMode v.e j) = dz at HCY HE hdz
  have hdz0 : ¬ dz = 0 := by omega
  have hb1 := Int.tdiv_nonneg (a := 1000 * F9 v.e.length) (b := dz) (by omega) (by omega)
  have hb2 : (1000 * F9 v.e.length).tdiv dz ≤ 1000 * F9 v.e.length := by rw [Int.tdiv_eq_ediv_of_nonneg (by omega)]; exact Int.ediv_le_self _ (by omega)
  have hw1 : IntKind.i64.wrap (1000 * F9 v.e.length) = 1000 * F9 v.e.length := by rw [IntKind.wrap_i64]; omega
  have hw2 : IntKind.i64.wrap ((1000 * F9 v.e.length).tdiv dz) = (1000 * F9 v.e.length).tdiv dz := by rw [IntKind.wrap_i64]; omega
  have HW1 := Lib.hid hw1; have HW2 := Lib.hid hw2; have HDZ := Lib.hid hdz0
  have hel := hr.el
  clear hc hlm hw hj hr hpos hdz h9 hb1 hb2 hw1 hw2 hdz0
  unfold mvVal at HC HCY ⊢
  go_enter Tryz.func46, Tryz.ntmps46
  go_upto_region 1 with fail
  generalize w.alloc (.cells #[.int .i64 v.id, .slice v.no v.n.length v.nc, .slice v.mo v.cs.length v.mc, .slice v.eo v.e.length v.ec] 28) = w1 at HX ⊢
  obtain ⟨z0, z1, z2, z3⟩ := HX.out.at_.all
  go_wp2_with fail
  refine (HC.out _ HX.out.rd).mono ?_
  rintro e w2 ⟨rfl, b2⟩
  have HX3 := Lib.hid (HX.out.call b2)
  clear z0 z1 z2 z3 b2 HX HC
  go_wp2_with fail
  obtain ⟨m0, hm0⟩ : ∃ m0, m0 = w.heap.size := ⟨_, rfl⟩
  rw [← hm0] at HX3 ⊢
  have HM0 := Lib.hid hm0
  clear hm0
  go_loopw [7, 8] (fun s i wr => ∃ i0 : Nat, i0 ≤ v.e.length ∧ i = .int .i64 i0 ∧ s = .int .i64 (F9 i0) ∧ Hid (Bx 28 w wr m0 v)) (fun _ i _ => v.e.length - (intOf i).toNat)
  case atStart => exact ⟨0, Nat.zero_le _, rfl, by rw [H0.out], HX3⟩
  case round =>
    clear HX3
    obtain ⟨i, hi, rfl, rfl, HB⟩ := hrel
    obtain ⟨q0, q1, q2, q3⟩ := HB.out.at_.all
    by_cases hlt : i < v.e.length
    · have hlti : (i : Int) < (v.e.length : Int) := by omega
      obtain ⟨b, off, e0, hg, hx⟩ := HB.out.rd.re.at hlt
      rw [e0] at q3
      have HN := Lib.hid (HS.out i hlt)
      have h1 := HBD.out i
      have h2 := HBD.out (i + 1)
      generalize F9 i = z at HN h1 ⊢
      have hb9 := HB9.out i hlt
      generalize slOf v.e i = y at hx HN hb9
      obtain ⟨ym, yr, ys, yn, yk, yz, yd, yc⟩ := y
      obtain ⟨x0, x1, x2, x3, x4, x5, x6, x7⟩ := hx.all8
      (try dsimp only at x0 x1 x2 x3 x4 x5 x6 x7)
      replace HN : Hid (F9 (i + 1) = if ym = (j : Int) then z + cellsOf8 yk yz else z) := HN
      replace hb9 : isDesc ⟨yn, yk, yz, yd, yc⟩ = true := hb9
      by_cases hm : ym = (j : Int)
      · have hmb : (ym == (j : Int)) = true := by simp [hm]
        have HN2 := Lib.hid (HN.out.trans (if_pos hm))
        rw [HN2.out] at h2
        have HL8 := Lib.hid (fun W => l08Cells_any yk yz W (desc_parts hb9).2.1 (desc_parts hb9).2.2.1)
        generalize cellsOf8 yk yz = cq at HN2 h2 HL8
        have hww : IntKind.i64.wrap (z + cq) = z + cq := by rw [IntKind.wrap_i64]; omega
        clear HN hm hx hb9 e0
        go_upto_region 9 with fail
        have HB2 := Lib.hid (HB.out.call (Below.drew (Below.refl wr.heap.size wr)))
        have hq : wr.drew.cell? ⟨m0, 3, none⟩ = some (.slice (some ⟨b, off, none⟩) v.e.length v.ec) ∧ wr.drew.cell? ⟨b, off + i * 8 + 4, none⟩ = some (.int .i64 yk) ∧ wr.drew.cell? ⟨b, off + i * 8 + 5, none⟩ = some (.int .i64 yz) := ⟨q3, x4, x5⟩
        clear x0 x1 x2 x3 x4 x5 x6 x7 q0 q1 q2 q3 HB
        refine wp_region_held_drew (S := fun w' => w'.cell? ⟨m0, 3, none⟩ = some (.slice (some ⟨b, off, none⟩) v.e.length v.ec) ∧ w'.cell? ⟨b, off + i * 8 + 4, none⟩ = some (.int .i64 yk) ∧ w'.cell? ⟨b, off + i * 8 + 5, none⟩ = some (.int .i64 yz)) (by kernel_rfl) (hq) (fun hHeld => ?_)
        generalize wr.drew = wd at HB2 hq hHeld ⊢
        refine wpAnyH_take (i := 0) (v := ?_) rfl (by kernel_rfl) (by kernel_rfl) (by kernel_rfl) (fun _ _ _ h => h) (Or.inl ⟨by rfl, ?_⟩) (by assumption) ?_
        rotate_left
        · (intro w hSw; (try dsimp only at hSw); go_simp; (try with_reducible rfl))
        try simp only [pa, pb, pc, Act.put, pe, pf, pg]
        refine wpAnyH_take (i := 1) (v := ?_) rfl (by kernel_rfl) (by kernel_rfl) (by kernel_rfl) (fun _ _ _ h => h) (Or.inl ⟨by rfl, ?_⟩) (by assumption) ?_
        rotate_left
        · (intro w hSw; (try dsimp only at hSw); go_simp; (try with_reducible rfl))
        try simp only [pa, pb, pc, Act.put, pe, pf, pg]
        refine wpAnyH_take (i := 2) (v := ?_) rfl (by kernel_rfl) (by kernel_rfl) (by kernel_rfl) (fun _ _ _ h => h) (Or.inl ⟨by rfl, ?_⟩) (by assumption) ?_
        rotate_left
        · (intro w hSw; (try dsimp only at hSw); go_simp; (try with_reducible rfl))
        try simp only [pa, pb, pc, Act.put, pe, pf, pg]
        refine wpAnyH_take (i := 3) (v := ?_) rfl (by kernel_rfl) (by kernel_rfl) (by kernel_rfl) (fun _ _ _ h => h) (Or.inl ⟨by rfl, ?_⟩) (by assumption) ?_
        rotate_left
        · (intro w hSw; (try dsimp only at hSw); go_simp; (try with_reducible rfl))
        try simp only [pa, pb, pc, Act.put, pe, pf, pg]
        refine wpAnyH_take (i := 4) (v := ?_) rfl (by kernel_rfl) (by kernel_rfl) (by kernel_rfl) (fun _ _ _ h => h) (Or.inl ⟨by rfl, ?_⟩) (by assumption) ?_
        rotate_left
        · (intro w hSw; (try dsimp only at hSw); go_simp; (try with_reducible rfl))
        try simp only [pa, pb, pc, Act.put, pe, pf, pg]
        refine wpAnyH_take (i := 5) (v := ?_) rfl (by kernel_rfl) (by kernel_rfl) (by kernel_rfl) (fun _ _ _ h => h) (Or.inl ⟨by rfl, ?_⟩) (by assumption) ?_
        rotate_left
        · (intro w hSw; (try dsimp only at hSw); go_simp; (try with_reducible rfl))
        try simp only [pa, pb, pc, Act.put, pe, pf, pg]
        refine wpAnyH_take (i := 6) (v := ?_) rfl (by kernel_rfl) (by kernel_rfl) (by kernel_rfl) (fun _ _ _ h => h) (Or.inl ⟨by rfl, ?_⟩) (by assumption) ?_
        rotate_left
        · (intro w hSw; (try dsimp only at hSw); go_simp; (try with_reducible rfl))
        try simp only [pa, pb, pc, Act.put, pe, pf, pg]
        refine wpAnyH_take (i := 7) (v := ?_) rfl (by kernel_rfl) (by kernel_rfl) (by kernel_rfl) (fun _ _ _ h => h) (Or.inl ⟨by rfl, ?_⟩) (by assumption) ?_
        rotate_left
        · (intro w hSw; (try dsimp only at hSw); go_simp; (try with_reducible rfl))
        try simp only [pa, pb, pc, Act.put, pe, pf, pg]
        refine wpAnyH_take (i := 8) (v := ?_) rfl (by kernel_rfl) (by kernel_rfl) (by kernel_rfl) (fun _ _ _ h => h) (Or.inl ⟨by rfl, ?_⟩) (by assumption) ?_
        rotate_left
        · (intro w hSw; (try dsimp only at hSw); go_simp; (try with_reducible rfl))
        try simp only [pa, pb, pc, Act.put, pe, pf, pg]
        refine wpAnyH_take (i := 9) (v := ?_) rfl (by kernel_rfl) (by kernel_rfl) (by kernel_rfl) (fun _ _ _ h => h) (Or.inl ⟨by rfl, ?_⟩) (by assumption) ?_
        rotate_left
        · (intro w hSw; (try dsimp only at hSw); go_simp; (try with_reducible rfl))
        try simp only [pa, pb, pc, Act.put, pe, pf, pg]
        refine wpAnyH_take (i := 10) (v := ?_) rfl (by kernel_rfl) (by kernel_rfl) (by kernel_rfl) (fun _ _ _ h => h) (Or.inl ⟨by rfl, ?_⟩) (by assumption) ?_
        rotate_left
        · (intro w hSw; (try dsimp only at hSw); go_simp; (try with_reducible rfl))
        try simp only [pa, pb, pc, Act.put, pe, pf, pg]
        refine wpAnyH_take (i := 11) (v := ?_) rfl (by kernel_rfl) (by kernel_rfl) (by kernel_rfl) (fun _ _ _ h => h) (Or.inl ⟨by rfl, ?_⟩) (by assumption) ?_
        rotate_left
        · (intro w hSw; (try dsimp only at hSw); go_simp; (try with_reducible rfl))
        try simp only [pa, pb, pc, Act.put, pe, pf, pg]
        refine wpAnyH_take (i := 12) (v := ?_) rfl (by kernel_rfl) (by kernel_rfl) (by kernel_rfl) (fun _ _ _ h => h) (Or.inl ⟨by rfl, ?_⟩) (by assumption) ?_
        rotate_left
        · (intro w hSw; (try dsimp only at hSw); go_simp; (try with_reducible rfl))
        try simp only [pa, pb, pc, Act.put, pe, pf, pg]
        refine wpAnyH_take (i := 13) (v := ?_) rfl (by kernel_rfl) (by kernel_rfl) (by kernel_rfl) (fun _ _ _ h => h) (Or.inl ⟨by rfl, ?_⟩) (by assumption) ?_
        rotate_left
        · (intro w hSw; (try dsimp only at hSw); go_simp; (try with_reducible rfl))
        try simp only [pa, pb, pc, Act.put, pe, pf, pg]
        refine wpAnyH_take (i := 14) (v := ?_) rfl (by kernel_rfl) (by kernel_rfl) (by kernel_rfl) (fun _ _ _ h => h) (Or.inl ⟨by rfl, ?_⟩) (by assumption) ?_
        rotate_left
        · (intro w hSw; (try dsimp only at hSw); go_simp; (try with_reducible rfl))
        try simp only [pa, pb, pc, Act.put, pe, pf, pg]
        refine wpAnyH_ready (rs := [15]) (by kernel_rfl) (by simp) (AllReadyH.cons rfl (fun K hK => ?_) AllReadyH.nil)
        go_simp
        refine (HL8.out wd).mono ?_
        rintro e w6 ⟨rfl, rfl⟩
        go_wp2_with fail
        refine hK.out _ _ ?_ (fun hHeld => ?_)
        · exact hq
        clear hK K
        try simp only [pa, pb, pc, Act.put, pe, pf, pg]
        refine wpAnyH_take (i := 16) (v := ?_) rfl (by kernel_rfl) (by kernel_rfl) (by kernel_rfl) (fun _ _ _ h => h) (Or.inl ⟨by rfl, ?_⟩) (by assumption) ?_
        rotate_left
        · (intro w hSw; (try dsimp only at hSw); go_simp; (try with_reducible rfl))
        try simp only [pa, pb, pc, Act.put, pe, pf, pg]
        refine wpAnyH_take (i := 17) (v := ?_) rfl (by kernel_rfl) (by kernel_rfl) (by kernel_rfl) (fun _ _ _ h => h) (Or.inl ⟨by rfl, ?_⟩) (by assumption) ?_
        rotate_left
        · (intro w hSw; (try dsimp only at hSw); go_simp; (try with_reducible rfl))
        try simp only [pa, pb, pc, Act.put, pe, pf, pg]
        refine wpAnyH_done (by kernel_rfl) ?_ _
        clear hq
        go_wp2_with fail
        go_roundw
        case rel => exact ⟨i + 1, by omega, by go_num, by rw [HN2.out], HB2⟩
        case measure => simp [intOf]; omega
      · have hmb : (ym == (j : Int)) = false := by simp [hm]
        have HN2 := Lib.hid (HN.out.trans (if_neg hm))
        clear HN hm hx hb9 e0
        go_wp2_with fail
        clear x0 x1 x2 x3 x4 x5 x6 x7 q0 q1 q2 q3
        go_roundw
        case rel => exact ⟨i + 1, by omega, by go_num, by rw [HN2.out], HB⟩
        case measure => simp [intOf]; omega
    · have hkn : i = v.e.length := by omega
      subst hkn
      have hw1 := HW1.out; have hdz0 := HDZ.out; have hw2 := HW2.out
      go_wp2_with fail
      refine (HCY.out _ HB.out.rd).mono ?_
      rintro e w6 ⟨rfl, b6⟩
      have HB6 := Lib.hid (HB.out.call b6).below
      clear b6 q0 q1 q2 q3
      go_wp2_with fail
      go_ret2
      exact ⟨by rw [HE.out]; rfl, HB6.out⟩
set_option linter.unusedSimpArgs false in
set_option maxRecDepth 100000 in
set_option maxHeartbeats 4000000 in
theorem sSlackOf_any (v : Mv) (k : Int) (w : World) (hr : RdMe w v) :
    Calls Tryz.prog 48 #[mvVal v, .int .i64 k] w fun e w' => e = .returned (.tuple #[.int .i64 (slackOf v.me k).1, .int .i64 (slackOf v.me k).2]) ∧ Below w.heap.size w w' := by
  have HX := Lib.hid (Bx.start (T := 28) hr)
  have HC := Lib.hid (fun W hW => l13Mode_any v k W hW)
  by_cases hc : codeMe v.me k = 0
  rotate_left
  · rw [show slackOf v.me k = (0, codeMe v.me k) from by unfold slackOf; rw [show codeLm v.me k = codeMe v.me k from rfl, if_neg hc]]
    generalize codeMe v.me k = c at HC hc ⊢
    have hcb : (c != 0) = true := by simp [hc]
    clear hr hc
    unfold mvVal at HC ⊢
    go_enter Tryz.func48, Tryz.ntmps48
    go_upto_region 1 with fail
    generalize w.alloc (.cells #[.int .i64 v.id, .slice v.no v.n.length v.nc, .slice v.mo v.cs.length v.mc, .slice v.eo v.e.length v.ec] 28) = w1 at HX ⊢
    obtain ⟨z0, z1, z2, z3⟩ := HX.out.at_.all
    go_wp2_with fail
    refine (HC.out _ HX.out.rd).mono ?_
    rintro e w2 ⟨rfl, b2⟩
    clear z0 z1 z2 z3
    go_wp2_with fail
    go_ret2
    exact ⟨rfl, (HX.out.call b2).below⟩
  have hlm : codeLm v.me k = 0 := hc
  rw [hc] at HC
  obtain ⟨j, rfl, hj, hw⟩ := lm_yes hlm
  have hpos : 0 < (inMode v.e j).length := by
    have h2 := cyc_len (m := v.me) hw hj
    have b := md_bounds hw.r3 hj
    have : 1 * 1 ≤ (mdOf v.me.modes j).rounds.toNat * (mdOf v.me.modes j).slots.toNat := Nat.mul_le_mul (by omega) (by omega)
    have h2 : (inMode v.e j).length = (mdOf v.me.modes j).rounds.toNat * (mdOf v.me.modes j).slots.toNat := h2
    omega
  rw [show slackOf v.me (j : Int) = (lowL ((cycK v.me (j : Int)).map pauseSl), 0) from by unfold slackOf; rw [if_pos hlm]]
  have HS := Lib.hid (fun k (hk : k < v.e.length) => low_step (e := v.e) (j := j) hk)
  have HBD := Lib.hid (fun k => low_bound hw.r4 j k)
  change Hid (∀ k, 0 ≤ lowM (inMode (v.e.take k) j) ∧ lowM (inMode (v.e.take k) j) ≤ 1000) at HBD
  have HE := Lib.hid (show lowL ((cycK v.me (j : Int)).map pauseSl) = lowM (inMode (v.e.take v.e.length) j) from (low_end hw.r4 (j := j) hpos).symm)
  have H0 := Lib.hid (show lowM (inMode (v.e.take 0) j) = 1000 from rfl)
  have HB9 := Lib.hid (fun i (hi : i < v.e.length) => (show isDesc (slOf v.e i).desc = true from (sl_bounds hw.r4 (slOf_mem hi)).2.2.2))
  generalize lowL ((cycK v.me (j : Int)).map pauseSl) = R at HE ⊢
  obtain ⟨F9, hF⟩ : ∃ F9 : Nat → Int, ∀ k, F9 k = lowM (inMode (v.e.take k) j) := ⟨_, fun _ => rfl⟩
  simp only [← hF] at HS HBD H0 HE
  clear hF
  have hel := hr.el
  clear hc hlm hw hj hr hpos
  unfold mvVal at HC ⊢
  go_enter Tryz.func48, Tryz.ntmps48
  go_upto_region 1 with fail
  generalize w.alloc (.cells #[.int .i64 v.id, .slice v.no v.n.length v.nc, .slice v.mo v.cs.length v.mc, .slice v.eo v.e.length v.ec] 28) = w1 at HX ⊢
  obtain ⟨z0, z1, z2, z3⟩ := HX.out.at_.all
  go_wp2_with fail
  refine (HC.out _ HX.out.rd).mono ?_
  rintro e w2 ⟨rfl, b2⟩
  have HX3 := Lib.hid (HX.out.call b2)
  clear z0 z1 z2 z3 b2 HX HC
  go_wp2_with fail
  obtain ⟨m0, hm0⟩ : ∃ m0, m0 = w.heap.size := ⟨_, rfl⟩
  rw [← hm0] at HX3 ⊢
  have HM0 := Lib.hid hm0
  clear hm0
  go_loopw [7, 8] (fun s i wr => ∃ i0 : Nat, i0 ≤ v.e.length ∧ i = .int .i64 i0 ∧ s = .int .i64 (F9 i0) ∧ Hid (Bx 28 w wr m0 v)) (fun _ i _ => v.e.length - (intOf i).toNat)
  case atStart => exact ⟨0, Nat.zero_le _, rfl, by rw [H0.out], HX3⟩
  case round =>
    clear HX3
    obtain ⟨i, hi, rfl, rfl, HB⟩ := hrel
    obtain ⟨q0, q1, q2, q3⟩ := HB.out.at_.all
    by_cases hlt : i < v.e.length
    · have hlti : (i : Int) < (v.e.length : Int) := by omega
      obtain ⟨b, off, e0, hg, hx⟩ := HB.out.rd.re.at hlt
      rw [e0] at q3
      have HN := Lib.hid (HS.out i hlt)
      have h1 := HBD.out i
      have h2 := HBD.out (i + 1)
      generalize F9 i = z at HN h1 ⊢
      have hb9 := HB9.out i hlt
      generalize slOf v.e i = y at hx HN hb9
      obtain ⟨ym, yr, ys, yn, yk, yz, yd, yc⟩ := y
      obtain ⟨x0, x1, x2, x3, x4, x5, x6, x7⟩ := hx.all8
      (try dsimp only at x0 x1 x2 x3 x4 x5 x6 x7)
      replace HN : Hid (F9 (i + 1) = if ym = (j : Int) then min z (yd - cellsOf8 yk yz) else z) := HN
      replace hb9 : isDesc ⟨yn, yk, yz, yd, yc⟩ = true := hb9
      by_cases hm : ym = (j : Int)
      · have hmb : (ym == (j : Int)) = true := by simp [hm]
        have HN2 := Lib.hid (HN.out.trans (if_pos hm))
        have hdp := desc_parts hb9
        have HL8 := Lib.hid (fun W => l08Cells_any yk yz W hdp.2.1 hdp.2.2.1)
        have hcq := cells_in yk yz
        have hd1 : cellsOf8 yk yz + 20 ≤ yd ∧ yd ≤ 1000 := hdp.2.2.2.2
        generalize cellsOf8 yk yz = cq at HN2 HL8 hcq hd1
        have hww : IntKind.i64.wrap (yd - cq) = yd - cq := by rw [IntKind.wrap_i64]; omega
        have bal := (Below.refl wr.heap.size wr).alloc (Nat.le_refl _) (.cells #[.int .i64 yn, .int .i64 yk, .int .i64 yz, .int .i64 yd, .bool yc] 44)
        have HB1 := Lib.hid (HB.out.call bal)
        have k1 : (wr.alloc (.cells #[.int .i64 yn, .int .i64 yk, .int .i64 yz, .int .i64 yd, .bool yc] 44)).cell? ⟨wr.heap.size, 1, none⟩ = some (.int .i64 yk) := by simp
        have k2 : (wr.alloc (.cells #[.int .i64 yn, .int .i64 yk, .int .i64 yz, .int .i64 yd, .bool yc] 44)).cell? ⟨wr.heap.size, 2, none⟩ = some (.int .i64 yz) := by simp
        have k3 : (wr.alloc (.cells #[.int .i64 yn, .int .i64 yk, .int .i64 yz, .int .i64 yd, .bool yc] 44)).cell? ⟨wr.heap.size, 3, none⟩ = some (.int .i64 yd) := by simp
        clear HN hm hx hb9 bal HB hdp e0
        go_upto_region 10 with fail
        clear x0 x1 x2 x3 x4 x5 x6 x7 q0 q1 q2 q3
        generalize wr.alloc (.cells #[.int .i64 yn, .int .i64 yk, .int .i64 yz, .int .i64 yd, .bool yc] 44) = w8 at HB1 k1 k2 k3 ⊢
        have HB2 := Lib.hid (HB1.out.call (Below.drew (Below.refl w8.heap.size w8)))
        have hq : w8.drew.cell? ⟨wr.heap.size, 1, none⟩ = some (.int .i64 yk) ∧ w8.drew.cell? ⟨wr.heap.size, 2, none⟩ = some (.int .i64 yz) ∧ w8.drew.cell? ⟨wr.heap.size, 3, none⟩ = some (.int .i64 yd) := ⟨k1, k2, k3⟩
        clear k1 k2 k3 HB1
        refine wp_region_held_drew (S := fun w' => w'.cell? ⟨wr.heap.size, 1, none⟩ = some (.int .i64 yk) ∧ w'.cell? ⟨wr.heap.size, 2, none⟩ = some (.int .i64 yz) ∧ w'.cell? ⟨wr.heap.size, 3, none⟩ = some (.int .i64 yd)) (by kernel_rfl) (hq) (fun hHeld => ?_)
        generalize w8.drew = wd at HB2 hq hHeld ⊢
        refine wpAnyH_take (i := 0) (v := ?_) rfl (by kernel_rfl) (by kernel_rfl) (by kernel_rfl) (fun _ _ _ h => h) (Or.inl ⟨by rfl, ?_⟩) (by assumption) ?_
        rotate_left
        · (intro w hSw; (try dsimp only at hSw); go_simp; (try with_reducible rfl))
        try simp only [pa, pb, pc, Act.put, pe, pf, pg]
        refine wpAnyH_take (i := 1) (v := ?_) rfl (by kernel_rfl) (by kernel_rfl) (by kernel_rfl) (fun _ _ _ h => h) (Or.inl ⟨by rfl, ?_⟩) (by assumption) ?_
        rotate_left
        · (intro w hSw; (try dsimp only at hSw); go_simp; (try with_reducible rfl))
        try simp only [pa, pb, pc, Act.put, pe, pf, pg]
        refine wpAnyH_take (i := 2) (v := ?_) rfl (by kernel_rfl) (by kernel_rfl) (by kernel_rfl) (fun _ _ _ h => h) (Or.inl ⟨by rfl, ?_⟩) (by assumption) ?_
        rotate_left
        · (intro w hSw; (try dsimp only at hSw); go_simp; (try with_reducible rfl))
        try simp only [pa, pb, pc, Act.put, pe, pf, pg]
        refine wpAnyH_take (i := 3) (v := ?_) rfl (by kernel_rfl) (by kernel_rfl) (by kernel_rfl) (fun _ _ _ h => h) (Or.inl ⟨by rfl, ?_⟩) (by assumption) ?_
        rotate_left
        · (intro w hSw; (try dsimp only at hSw); go_simp; (try with_reducible rfl))
        try simp only [pa, pb, pc, Act.put, pe, pf, pg]
        refine wpAnyH_take (i := 4) (v := ?_) rfl (by kernel_rfl) (by kernel_rfl) (by kernel_rfl) (fun _ _ _ h => h) (Or.inl ⟨by rfl, ?_⟩) (by assumption) ?_
        rotate_left
        · (intro w hSw; (try dsimp only at hSw); go_simp; (try with_reducible rfl))
        try simp only [pa, pb, pc, Act.put, pe, pf, pg]
        refine wpAnyH_take (i := 5) (v := ?_) rfl (by kernel_rfl) (by kernel_rfl) (by kernel_rfl) (fun _ _ _ h => h) (Or.inl ⟨by rfl, ?_⟩) (by assumption) ?_
        rotate_left
        · (intro w hSw; (try dsimp only at hSw); go_simp; (try with_reducible rfl))
        try simp only [pa, pb, pc, Act.put, pe, pf, pg]
        refine wpAnyH_take (i := 6) (v := ?_) rfl (by kernel_rfl) (by kernel_rfl) (by kernel_rfl) (fun _ _ _ h => h) (Or.inl ⟨by rfl, ?_⟩) (by assumption) ?_
        rotate_left
        · (intro w hSw; (try dsimp only at hSw); go_simp; (try with_reducible rfl))
        try simp only [pa, pb, pc, Act.put, pe, pf, pg]
        refine wpAnyH_ready (rs := [7]) (by kernel_rfl) (by simp) (AllReadyH.cons rfl (fun K hK => ?_) AllReadyH.nil)
        go_simp
        refine (HL8.out wd).mono ?_
        rintro e w6 ⟨rfl, rfl⟩
        go_wp2_with fail
        refine hK.out _ _ ?_ (fun hHeld => ?_)
        · exact hq
        clear hK K
        try simp only [pa, pb, pc, Act.put, pe, pf, pg]
        refine wpAnyH_take (i := 8) (v := ?_) rfl (by kernel_rfl) (by kernel_rfl) (by kernel_rfl) (fun _ _ _ h => h) (Or.inl ⟨by rfl, ?_⟩) (by assumption) ?_
        rotate_left
        · (intro w hSw; (try dsimp only at hSw); go_simp; (try with_reducible rfl))
        try simp only [pa, pb, pc, Act.put, pe, pf, pg]
        refine wpAnyH_take (i := 9) (v := ?_) rfl (by kernel_rfl) (by kernel_rfl) (by kernel_rfl) (fun _ _ _ h => h) (Or.inl ⟨by rfl, ?_⟩) (by assumption) ?_
        rotate_left
        · (intro w hSw; (try dsimp only at hSw); go_simp; (try with_reducible rfl))
        try simp only [pa, pb, pc, Act.put, pe, pf, pg]
        refine wpAnyH_take (i := 10) (v := ?_) rfl (by kernel_rfl) (by kernel_rfl) (by kernel_rfl) (fun _ _ _ h => h) (Or.inl ⟨by rfl, ?_⟩) (by assumption) ?_
        rotate_left
        · (intro w hSw; (try dsimp only at hSw); go_simp; (try with_reducible rfl))
        try simp only [pa, pb, pc, Act.put, pe, pf, pg]
        refine wpAnyH_done (by kernel_rfl) ?_ _
        clear hq
        go_wp2_with fail
        go_roundw
        case rel => exact ⟨i + 1, by omega, by go_num, by rw [HN2.out]; first | rfl | rw [min_if17], HB2⟩
        case measure => simp [intOf]; omega
      · have hmb : (ym == (j : Int)) = false := by simp [hm]
        have HN2 := Lib.hid (HN.out.trans (if_neg hm))
        clear HN hm hx hb9 e0
        go_wp2_with fail
        clear x0 x1 x2 x3 x4 x5 x6 x7 q0 q1 q2 q3
        go_roundw
        case rel => exact ⟨i + 1, by omega, by go_num, by rw [HN2.out], HB⟩
        case measure => simp [intOf]; omega
    · have hkn : i = v.e.length := by omega
      subst hkn
      go_wp2_with fail
      go_ret2
      exact ⟨by rw [HE.out]; rfl, HB.out.below⟩
end

section
open Go.RowKit
theorem an_one {m : Me} {k : Int} {ns : List Int} (h : codeAn m k ns = 0) {n : Int} (hn : n ∈ ns) : codeAn m k [n] = 0 := by
  unfold codeAn at h ⊢
  by_cases hc : codeLm m k = 0
  · rw [if_pos hc] at h ⊢
    unfold codeSend at h ⊢
    split at h
    · cases h
    · rename_i h1
      split at h
      · cases h
      · rename_i h2
        simp only [List.any_eq_true, not_exists, not_and, Bool.not_eq_true] at h1 h2
        rw [if_neg (by simp [h1 n hn]), if_neg (by simp [h2 n hn])]
  · rw [if_neg hc] at h
    exact absurd h hc
theorem chains_law {m : Me} {k a b t : Int} (h : chainTime m k a b = (t, 0)) : ∃ f1 f2, worstGap m k a = (f1, 0) ∧ worstGap m k b = (f2, 0) ∧ f1 < t ∧ t ≤ f1 + f2 + 2000 ∧ (0 ≤ f1 ∧ f1 ≤ 32000) ∧ (0 ≤ f2 ∧ f2 ≤ 32000) := by
  unfold chainTime at h
  by_cases hc : codeAn m k [a, b] = 0
  · rw [if_pos hc] at h
    have ha := an_one hc (n := a) (by simp)
    have hb := an_one hc (n := b) (by simp)
    obtain ⟨-, hns⟩ := an_yes hc
    obtain ⟨na, -, -, ho, -⟩ := hns a (by simp)
    obtain ⟨nb, -, -, hp, -⟩ := hns b (by simp)
    have hl := chain_law ho hp
    have h1 := ho.gaps_bound ho.top_in.1
    have h2 := hp.gaps_bound hp.top_in.1
    have hC := ho.c1
    have e := (Prod.mk.inj h).1
    rw [← e]
    exact ⟨_, _, by unfold worstGap; rw [if_pos ha], by unfold worstGap; rw [if_pos hb], hl.1, hl.2.1, by omega, by omega⟩
  · rw [if_neg hc] at h
    exact absurd (Prod.mk.inj h).2 hc
theorem sum_eq17 (l : List Int) : l.sum = sum17 l := by
  induction l with
  | nil => rfl
  | cons x l ih => rw [List.sum_cons, ih]; rfl
theorem gaps_law {m : Me} {k d : Int} {g : List Int} (h : gapsOf m k d = (g, 0)) : ∃ w j, worstGap m k d = (w, 0) ∧ jitterOf m k d = (j, 0) ∧ cycleTime m k = (g.sum, 0) ∧ w ∈ g ∧ w - j ∈ g ∧ 0 ≤ j ∧ (∀ y ∈ g, 0 ≤ y ∧ y ≤ 32000) ∧ g.length ≤ 120 ∧ (0 ≤ w ∧ w ≤ 32000) ∧ j ≤ 32000 := by
  unfold gapsOf at h
  by_cases hc : codeAn m k [d] = 0
  · rw [if_pos hc] at h
    obtain ⟨⟨j, rfl, hj, W⟩, hns⟩ := an_yes hc
    obtain ⟨nd, -, -, ho, -⟩ := hns d (by simp)
    have e := (Prod.mk.inj h).1
    rw [← e]
    have h1 := ho.gaps_bound ho.top_in.1
    have h2 := ho.gaps_bound ho.low_in.1
    have h3 := ho.top_in.2 _ ho.low_in.1
    have hC := ho.c1
    refine ⟨_, _, by unfold worstGap; rw [if_pos hc], by unfold jitterOf; rw [if_pos hc], ?_, ho.top_in.1, ?_, by omega, fun y hy => ?_, ?_, by omega, by omega⟩
    · rw [sum_eq17, ho.sum]
      unfold cycleTime
      rw [if_neg (by rw [medl_iff.2 W]; simp), if_neg (by rw [isMode_iff.2 ⟨by omega, by omega⟩]; simp)]
      rfl
    · rw [show topL (gapsL (cyc17 m (j : Int)) (sent17 m (j : Int) d)) - (topL (gapsL (cyc17 m (j : Int)) (sent17 m (j : Int) d)) - lowL (gapsL (cyc17 m (j : Int)) (sent17 m (j : Int) d))) = lowL (gapsL (cyc17 m (j : Int)) (sent17 m (j : Int) d)) by omega]
      exact ho.low_in.1
    · have := ho.gaps_bound hy
      omega
    · rw [gaps_len]
      exact ho.le
  · rw [if_neg hc] at h
    exact absurd (Prod.mk.inj h).2 hc
theorem sum_take17 (xs : List Int) (k : Nat) (h : k < xs.length) : (xs.take (k + 1)).sum = (xs.take k).sum + xs.getD k 0 := by
  rw [List.take_add_one, List.getElem?_eq_getElem h, List.sum_append, List.getD_eq_getElem?_getD, List.getElem?_eq_getElem h]
  simp
theorem sum17_any (ao : Option Addr) (n cap : Nat) (xs : List Int) (w : World) (hr : Rd w ao n xs) (hn : n ≤ 1048576) (hb : ∀ x ∈ xs, 0 ≤ x ∧ x ≤ 32000) :
    Calls Tryz.prog 43 #[.slice ao n cap] w fun e w' => e = .returned (.int .i64 xs.sum) ∧ w = w' := by
  obtain ⟨hlen, hat⟩ := hr
  have HL := Lib.hid hlen; clear hlen
  have HA := Lib.hid hat; clear hat
  have HZ := Lib.hid hb; clear hb
  go_enter Tryz.func43, Tryz.ntmps43
  go_wp2
  go_loop [3, 4] (fun v i => ∃ (k : Nat) (y : Int), k ≤ n ∧ i = .int .i64 k ∧ v = .int .i64 y ∧ 0 ≤ y ∧ y ≤ 32000 * k ∧ Hid ((xs.take k).sum = y)) (fun _ i => n - (intOf i).toNat)
  case atStart => exact ⟨0, 0, Nat.zero_le _, rfl, rfl, by omega, by omega, rfl⟩
  case round =>
    obtain ⟨k, y, hk, rfl, rfl, hy0, hy1, HY⟩ := hrel
    by_cases hlt : k < n
    · obtain ⟨b, off, rfl, hall⟩ := HA.out (by omega)
      have hck := hall k hlt
      clear hall
      have hkx : k < xs.length := by rw [HL.out]; exact hlt
      have hb0 := HZ.out (xs.getD k 0) (by simp [List.getD, List.getElem?_eq_getElem hkx])
      have hfin : (xs.take (k + 1)).sum = y + xs.getD k 0 := by rw [sum_take17 xs k hkx, HY.out]
      obtain ⟨x, hx⟩ : ∃ x, x = xs.getD k 0 := ⟨_, rfl⟩
      rw [← hx] at hck hb0 hfin
      obtain ⟨hb0, hb1⟩ := hb0
      have HF := Lib.hid hfin; clear hfin hx hkx HY HZ HL HA
      go_wp2
      go_round
      case rel => exact ⟨k + 1, y + x, by omega, by go_num, rfl, by omega, by omega, HF⟩
      case measure => simp [intOf]; omega
    · have hkn : k = n := by omega
      subst hkn
      have hfin : y = xs.sum := by rw [← HY.out, List.take_of_length_le (by rw [HL.out]; exact Nat.le_refl _)]
      have HF := Lib.hid hfin; clear hfin
      go_wp2
      go_ret
      exact ⟨ret_int HF.out, rfl⟩
theorem use_law {m : Me} {k u : Int} (h : useOf m k = (u, 0)) : ∃ j : Nat, k = j ∧ j < m.modes.length ∧ Well m ∧ u = 1000 * cellSum (inMode m.slots j) / dursum (inMode m.slots j) ∧ slackOf m k = (lowL ((inMode m.slots j).map pauseSl), 0) ∧ cycleTime m k = (dursum (inMode m.slots j), 0) ∧ 0 < dursum (inMode m.slots j) ∧ 0 < (inMode m.slots j).length := by
  unfold useOf at h
  by_cases hc : codeLm m k = 0
  · rw [if_pos hc] at h
    obtain ⟨j, rfl, hj, W⟩ := lm_yes hc
    have e := (Prod.mk.inj h).1
    have hlen : 0 < (inMode m.slots j).length := by
      have h2 := cyc_len W hj
      have b := md_bounds W.r3 hj
      have : 1 * 1 ≤ (mdOf m.modes j).rounds.toNat * (mdOf m.modes j).slots.toNat := Nat.mul_le_mul (by omega) (by omega)
      omega
    have h1 := dursum_in (t := inMode m.slots j) (cyc_dur W)
    refine ⟨j, rfl, hj, W, e.symm, by unfold slackOf; rw [if_pos hc]; rfl, ?_, by omega, hlen⟩
    unfold cycleTime
    rw [if_neg (by rw [medl_iff.2 W]; simp), if_neg (by rw [isMode_iff.2 ⟨by omega, by omega⟩]; simp)]
    rfl
  · rw [if_neg hc] at h
    exact absurd (Prod.mk.inj h).2 hc
def foundTo (e : List Sl) (j : Nat) (s : Int) (k : Nat) : Bool := (inMode (e.take k) j).any fun x => decide (pauseSl x = s)
theorem found_zero (e : List Sl) (j : Nat) (s : Int) : foundTo e j s 0 = false := by simp [foundTo, inMode]
theorem found_step {e : List Sl} {j : Nat} {s : Int} {k : Nat} (hk : k < e.length) : foundTo e j s (k + 1) = if (slOf e k).mode = (j : Int) then (foundTo e j s k || decide (pauseSl (slOf e k) = s)) else foundTo e j s k := by
  unfold foundTo
  rw [inMode_next hk]
  by_cases h : (slOf e k).mode = (j : Int)
  · rw [if_pos h, if_pos h, List.any_append]; simp
  · rw [if_neg h, if_neg h]
theorem found_end {e : List Sl} {j : Nat} (h0 : 0 < (inMode e j).length) : foundTo e j (lowL ((inMode e j).map pauseSl)) e.length = true := by
  unfold foundTo
  rw [List.take_length]
  obtain ⟨h1, -⟩ := lowL_in (l := (inMode e j).map pauseSl) (by simpa using h0)
  obtain ⟨x, hx, ex⟩ := List.mem_map.1 h1
  exact List.any_eq_true.2 ⟨x, hx, by simp [ex]⟩
theorem slack_le {e : List Sl} {j k : Nat} (hk : k < e.length) (h : (slOf e k).mode = (j : Int)) : lowL ((inMode e j).map pauseSl) ≤ pauseSl (slOf e k) := by
  have hm : slOf e k ∈ inMode e j := List.mem_filter.2 ⟨slOf_mem hk, by simpa using h⟩
  exact (lowL_in (l := (inMode e j).map pauseSl) (by rw [List.length_map]; exact List.length_pos_of_mem hm)).2 _ (List.mem_map.2 ⟨_, hm, rfl⟩)
end

section
theorem gapsOf_len (m : Me) (k d : Int) : (gapsOf m k d).1.length ≤ 1048576 := by
  unfold gapsOf
  split
  · rename_i hc
    obtain ⟨-, h⟩ := an_yes hc
    obtain ⟨nd, -, -, ho, -⟩ := h d (by simp)
    rw [gaps_len]
    have := ho.le
    omega
  · simp
end

section
open Go.RowKit
theorem find_place {L : List Sl} {nd : Int} {p : Nat} {f : Sd → Bool} (hp : p < L.length) (hn : (slOf L p).desc.node = nd) (hno : ∀ x ∈ sentTo L nd p, f x = false) (hy : f ⟨dursum (L.take p), (slOf L p).desc⟩ = true) : (sentL L nd).find? f = some ⟨dursum (L.take p), (slOf L p).desc⟩ := by
  obtain ⟨R, e⟩ := sent_split (L := L) (node := nd) (j := p + 1) (by omega)
  have h1 : (sentTo L nd p).find? f = none := List.find?_eq_none.2 fun x hx => by rw [hno x hx]; simp
  rw [e, sentTo, if_pos hn, List.find?_append, List.find?_append, h1]
  simp [hy]
def Phase (C t : Int) (S : List Sd) (B : Int) : Prop := B = cyBase C t ∨ (B = cyBase C t + C ∧ ∀ x ∈ S, isFrom t (cyBase C t) x = false)
theorem phase_find {C t B : Int} {S : List Sd} {x : Sd} (ho : SdOk C S) (hB : Phase C t S B) (h : S.find? (isFrom t B) = some x) : firstFrom C S t = ⟨x.st + B, x.d⟩ := by
  rcases hB with rfl | ⟨rfl, hno⟩
  · unfold firstFrom; rw [h]
  · have h1 : S.find? (isFrom t (cyBase C t)) = none := List.find?_eq_none.2 fun y hy => by rw [hno y hy]; simp
    unfold firstFrom
    rw [h1]
    have h0 : S.find? (isFrom t (cyBase C t + C)) = some (sdOf S 0) := find_sd ho.ne (fun i hi => absurd hi (by omega)) (isFrom_iff.2 (by
      have := ho.lo 0 ho.ne
      have hC := ho.pos
      have := Int.emod_lt_of_pos t (show 0 < C by omega)
      unfold cyBase
      omega))
    rw [h0] at h
    cases h
    rfl
theorem phase_end {C t B : Int} {S : List Sd} (ho : SdOk C S) (hB : Phase C t S B) (hno : ∀ x ∈ S, isFrom t B x = false) : B = cyBase C t ∧ Phase C t S (cyBase C t + C) := by
  rcases hB with rfl | ⟨rfl, -⟩
  · exact ⟨rfl, .inr ⟨rfl, hno⟩⟩
  · have h1 := hno _ (sdOf_mem ho.ne)
    have h2 := isFrom_no.1 h1
    have := ho.lo 0 ho.ne
    have hC := ho.pos
    have := Int.emod_lt_of_pos t (show 0 < C by omega)
    unfold cyBase at h2
    omega
set_option linter.unusedSimpArgs false in
set_option maxRecDepth 100000 in
set_option maxHeartbeats 4000000 in
theorem l17End_any (v : Mv) (j : Nat) (d t : Int) (w : World) (hr : RdMe w v) (hw : Well v.me) (hj : j < v.me.modes.length) (ho : SdOk (dursum (inMode v.e j)) (sentL (inMode v.e j) d)) (h0 : 0 ≤ t) (h1 : t ≤ 200000) :
    Calls Tryz.prog 109 #[mvVal v, .int .i64 (j : Int), .int .i64 d, .int .i64 t] w fun e w' => e = .returned (.int .i64 (firstFrom (dursum (inMode v.e j)) (sentL (inMode v.e j) d) t).fin) ∧ Below w.heap.size w w' := by
  have HX := Lib.hid (Bx.start (T := 28) hr)
  have HCY := Lib.hid (fun W (hW : RdMe W v) => l13Cycle_any v j W hW hw.r4)
  have HST := Lib.hid (fun r s W (hW : RdMe W v) => l15Start_any v (j : Int) r s W hW (fun x hx => sl_dur hw.r4 hx))
  have HIT := Lib.hid (fun i (hi : i < v.e.length) (h : (slOf v.e i).mode = (j : Int)) => inMode_at (t := v.e) hi h)
  have HSP := Lib.hid (fun i (hi : i < v.e.length) (h : (slOf v.e i).mode = (j : Int)) => (show startSum v.e (j : Int) (slOf v.e i).round (slOf v.e i).slot = dursum ((inMode v.e j).take (inMode (v.e.take i) j).length) from (spot_sum (m := v.me) hw hj hi h).1))
  have HIN := Lib.hid (fun i (hi : i < v.e.length) => inMode_next (t := v.e) (j := j) hi)
  have HDU := Lib.hid (fun i (hi : i < v.e.length) => sl_dur hw.r4 (show slOf v.e i ∈ v.me.slots from slOf_mem hi))
  change Hid (∀ i, i < v.e.length → 1 ≤ (slOf v.e i).desc.dur ∧ (slOf v.e i).desc.dur ≤ 1000) at HDU
  have HSB := Lib.hid (fun p => (show 0 ≤ dursum ((inMode v.e j).take p) ∧ dursum ((inMode v.e j).take p) ≤ dursum (inMode v.e j) from dur_all (cyc_dur hw) p))
  have HFI := Lib.hid (fun p B f (hf : f = isFrom t B) hp hn hno hy (hB : Phase (dursum (inMode v.e j)) t (sentL (inMode v.e j) d) B) => phase_find ho hB (by rw [← hf]; exact find_place (L := inMode v.e j) (nd := d) (p := p) (f := f) hp hn hno hy))
  have HEN := Lib.hid (fun B (hB : Phase (dursum (inMode v.e j)) t (sentL (inMode v.e j) d) B) hno => phase_end ho hB hno)
  have HS0 := Lib.hid (show sentL (inMode v.e j) d = sentTo (inMode v.e j) d (inMode (v.e.take v.e.length) j).length from by rw [List.take_length]; rfl)
  have hC0 := ho.pos
  have hC1 := ho.c1
  have hel := hr.el
  generalize hR : firstFrom (dursum (inMode v.e j)) (sentL (inMode v.e j) d) t = R at HFI ⊢
  have HPH : Hid (Phase (dursum (inMode v.e j)) t (sentL (inMode v.e j) d) (cyBase (dursum (inMode v.e j)) t)) := .inl rfl
  have hq0 := Int.emod_nonneg t (show dursum (inMode v.e j) ≠ 0 by omega)
  have hq1 := Int.emod_lt_of_pos t (show 0 < dursum (inMode v.e j) by omega)
  have hq3 := Int.mul_ediv_add_emod t (dursum (inMode v.e j))
  have hq2 : 0 ≤ t / dursum (inMode v.e j) := Int.ediv_nonneg h0 (by omega)
  have hc0 : cyBase (dursum (inMode v.e j)) t = t - t % dursum (inMode v.e j) := rfl
  have hmul : t.tdiv (dursum (inMode v.e j)) * dursum (inMode v.e j) = cyBase (dursum (inMode v.e j)) t := by
    rw [Int.tdiv_eq_ediv_of_nonneg h0, hc0, Int.mul_comm]; omega
  have hcb : 0 ≤ cyBase (dursum (inMode v.e j)) t ∧ cyBase (dursum (inMode v.e j)) t ≤ 200000 := by
    constructor
    · rw [← hmul, Int.tdiv_eq_ediv_of_nonneg h0]; exact Int.mul_nonneg hq2 (by omega)
    · omega
  have hdle : t / dursum (inMode v.e j) ≤ t := Int.ediv_le_self _ h0
  have hwd : IntKind.i64.wrap (t.tdiv (dursum (inMode v.e j))) = t.tdiv (dursum (inMode v.e j)) := by rw [Int.tdiv_eq_ediv_of_nonneg h0, IntKind.wrap_i64]; omega
  generalize cyBase (dursum (inMode v.e j)) t = c0 at HPH hc0 hmul hcb HEN
  have hwm : IntKind.i64.wrap (t.tdiv (dursum (inMode v.e j)) * dursum (inMode v.e j)) = c0 := by rw [hmul, IntKind.wrap_i64]; omega
  have hCz : ¬ dursum (inMode v.e j) = 0 := by omega
  generalize hSS : sentL (inMode v.e j) d = S at HFI HEN HS0 HPH
  clear hSS hR hmul hq0 hq1 hq2 hq3 hc0 hdle ho hw hj hr
  obtain ⟨C, hC⟩ : ∃ C, dursum (inMode v.e j) = C := ⟨_, rfl⟩
  rw [hC] at HCY HSB HFI HEN HPH hC0 hC1 hwd hwm hCz
  clear hC
  unfold mvVal at HCY HST ⊢
  go_enter Tryz.func109, Tryz.ntmps109
  go_upto_region 1 with fail
  generalize w.alloc (.cells #[.int .i64 v.id, .slice v.no v.n.length v.nc, .slice v.mo v.cs.length v.mc, .slice v.eo v.e.length v.ec] 28) = w1 at HX ⊢
  obtain ⟨z0, z1, z2, z3⟩ := HX.out.at_.all
  go_wp2_with fail
  refine (HCY.out _ HX.out.rd).mono ?_
  rintro e w2 ⟨rfl, b2⟩
  have HX2 := Lib.hid (HX.out.call b2)
  clear z0 z1 z2 z3 b2 HX HCY
  obtain ⟨m0, hm0⟩ : ∃ m0, m0 = w.heap.size := ⟨_, rfl⟩
  rw [← hm0] at HX2 ⊢
  have HM0 := Lib.hid hm0
  clear hm0
  go_wp2_with fail
  clear hwd hwm hCz
  have hca := hcb.1
  have hcc := hcb.2
  clear hcb
  go_loopw [10] (fun bs wr => ∃ B : Int, bs = .int .i64 B ∧ (0 ≤ B ∧ B ≤ 300000) ∧ Hid (Phase C t S B) ∧ Hid (Bx 28 w wr m0 v)) (fun bs _ => (c0 + C - intOf bs).toNat)
  case atStart => exact ⟨c0, rfl, by omega, HPH, HX2⟩
  case round =>
    clear HX2 HPH
    obtain ⟨B, rfl, ⟨hB0, hB1⟩, HP, HB⟩ := hrel
    obtain ⟨wo, hwo⟩ : ∃ wo, wo = wr := ⟨_, rfl⟩
    rw [← hwo] at HB ⊢
    clear hwo
    go_wp2_with fail
    go_loopw [11] (fun i wr => ∃ i0 : Nat, i0 ≤ v.e.length ∧ i = .int .i64 i0 ∧ Hid (Bx 28 w wr m0 v) ∧ Hid (∀ x ∈ sentTo (inMode v.e j) d (inMode (v.e.take i0) j).length, isFrom t B x = false)) (fun i _ => v.e.length - (intOf i).toNat)
    case atStart => exact ⟨0, Nat.zero_le _, rfl, HB, Lib.hid (fun x hx => by simp [inMode, sentTo] at hx)⟩
    case round =>
      clear HB
      obtain ⟨i, hi, rfl, HB, HNO⟩ := hrel
      obtain ⟨q0, q1, q2, q3⟩ := HB.out.at_.all
      by_cases hlt : i < v.e.length
      · have hlti : (i : Int) < (v.e.length : Int) := by omega
        obtain ⟨b, off, e0, hg, hx⟩ := HB.out.rd.re.at hlt
        rw [e0] at q3
        have HI2 := Lib.hid (HIN.out i hlt)
        have HI3 := Lib.hid (HIT.out i hlt)
        have HS2 := Lib.hid (HSP.out i hlt)
        have hd9 := HDU.out i hlt
        generalize slOf v.e i = y at hx HI2 HI3 HS2 hd9
        obtain ⟨ym, yr, ys, yn, yk, yz, yd, yc⟩ := y
        replace HI2 : Hid (inMode (v.e.take (i + 1)) j = if ym = (j : Int) then inMode (v.e.take i) j ++ [⟨ym, yr, ys, ⟨yn, yk, yz, yd, yc⟩⟩] else inMode (v.e.take i) j) := HI2
        replace HS2 : Hid (ym = (j : Int) → startSum v.e (j : Int) yr ys = dursum ((inMode v.e j).take (inMode (v.e.take i) j).length)) := HS2
        replace hd9 : 1 ≤ yd ∧ yd ≤ 1000 := hd9
        obtain ⟨x0, x1, x2, x3, x4, x5, x6, x7⟩ := hx.all8
        (try dsimp only at x0 x1 x2 x3 x4 x5 x6 x7)
        have bal := (Below.refl wr.heap.size wr).alloc (Nat.le_refl _) (.cells #[.int .i64 ym, .int .i64 yr, .int .i64 ys, .int .i64 yn, .int .i64 yk, .int .i64 yz, .int .i64 yd, .bool yc] 65)
        have HX1 := Lib.hid (SlBk.new (T := 65) (x := ⟨ym, yr, ys, ⟨yn, yk, yz, yd, yc⟩⟩) wr)
        have HB1 := Lib.hid (HB.out.call bal)
        clear bal hx HB e0
        go_upto_region 8 with fail
        clear x0 x1 x2 x3 x4 x5 x6 x7 q0 q1 q2 q3
        generalize wr.alloc (.cells #[.int .i64 ym, .int .i64 yr, .int .i64 ys, .int .i64 yn, .int .i64 yk, .int .i64 yz, .int .i64 yd, .bool yc] 65) = w8 at HX1 HB1 ⊢
        obtain ⟨x0, x1, x2, x3, x4, x5, x6, x7⟩ := HX1.out.all8
        (try dsimp only at x0 x1 x2 x3 x4 x5 x6 x7)
        by_cases hm : ym = (j : Int)
        rotate_left
        · have hmb : (ym != (j : Int)) = true := by simp [hm]
          have HN2 := Lib.hid (show ∀ x ∈ sentTo (inMode v.e j) d (inMode (v.e.take (i + 1)) j).length, isFrom t B x = false from by rw [HI2.out, if_neg hm]; exact HNO.out)
          clear hm HI2 HI3 HS2 hd9
          go_wp2_with fail
          clear x0 x1 x2 x3 x4 x5 x6 x7
          go_roundw
          case rel => exact ⟨i + 1, by omega, by go_num, HB1, HN2⟩
          case measure => simp [intOf]; omega
        · have hmb : (ym != (j : Int)) = false := by simp [hm]
          obtain ⟨i1, i2, -⟩ := HI3.out hm
          have hi2 := HI2.out
          rw [if_pos hm] at hi2
          have s1 := HS2.out hm
          have HSN := Lib.hid (show sentTo (inMode v.e j) d (inMode (v.e.take (i + 1)) j).length = sentTo (inMode v.e j) d (inMode (v.e.take i) j).length ++ (if yn = d then [⟨dursum ((inMode v.e j).take (inMode (v.e.take i) j).length), ⟨yn, yk, yz, yd, yc⟩⟩] else []) from by
            rw [hi2, List.length_append, List.length_singleton, sentTo, i2])
          by_cases hn : yn = d
          rotate_left
          · have hnb : (yn != d) = true := by simp [hn]
            have HN2 := Lib.hid (show ∀ x ∈ sentTo (inMode v.e j) d (inMode (v.e.take (i + 1)) j).length, isFrom t B x = false from by rw [HSN.out, if_neg hn, List.append_nil]; exact HNO.out)
            clear hm hn HI2 HI3 HS2 hd9 i1 i2 hi2 s1 HSN
            go_wp2_with fail
            clear x0 x1 x2 x3 x4 x5 x6 x7
            go_roundw
            case rel => exact ⟨i + 1, by omega, by go_num, HB1, HN2⟩
            case measure => simp [intOf]; omega
          · have hnb : (yn != d) = false := by simp [hn]
            have HST2 := Lib.hid (HST.out yr ys)
            rw [s1] at HST2
            have hsb := HSB.out (inMode (v.e.take i) j).length
            have HFO := Lib.hid (fun hy => HFI.out (inMode (v.e.take i) j).length B _ rfl i1 (by rw [i2]; exact hn) HNO.out hy HP.out)
            rw [i2] at HFO
            have HN2 := Lib.hid (show isFrom t B ⟨dursum ((inMode v.e j).take (inMode (v.e.take i) j).length), ⟨yn, yk, yz, yd, yc⟩⟩ = false → ∀ x ∈ sentTo (inMode v.e j) d (inMode (v.e.take (i + 1)) j).length, isFrom t B x = false from fun h x hx => by
              rw [HSN.out, if_pos hn, List.mem_append] at hx
              rcases hx with hx | hx
              · exact HNO.out x hx
              · simp at hx; rw [hx]; exact h)
            generalize dursum ((inMode v.e j).take (inMode (v.e.take i) j).length) = z at HST2 hsb HFO HN2
            have hw1 : IntKind.i64.wrap (B + z) = B + z := by rw [IntKind.wrap_i64]; omega
            have hw2 : IntKind.i64.wrap (B + z + yd) = B + z + yd := by rw [IntKind.wrap_i64]; omega
            clear hm hn HI2 HI3 HS2 i1 i2 hi2 s1 HSN
            obtain ⟨q0, q1, q2, q3⟩ := HB1.out.at_.all
            go_wp2_with fail
            refine (HST2.out _ HB1.out.rd).mono ?_
            rintro e w9 ⟨rfl, b9⟩
            have HB9 := Lib.hid (HB1.out.call b9)
            have HX9 := Lib.hid (HX1.out.below b9 HX1.out.lt)
            clear x0 x1 x2 x3 x4 x5 x6 x7 q0 q1 q2 q3 b9 HB1 HX1
            obtain ⟨x0, x1, x2, x3, x4, x5, x6, x7⟩ := HX9.out.all8
            (try dsimp only at x0 x1 x2 x3 x4 x5 x6 x7)
            by_cases hge : t ≤ B + z
            · have HF := Lib.hid (HFO.out (isFrom_iff.2 (by show t ≤ z + B; omega)))
              have HF2 := Lib.hid (show R.fin = B + z + yd from by rw [HF.out]; show z + B + yd = _; omega)
              clear HFO HN2 HF
              go_wp2_with fail
              go_ret
              exact ⟨by rw [HF2.out]; rfl, HB9.out.below⟩
            · have HN3 := Lib.hid (HN2.out (isFrom_no.2 (by show z + B < t; omega)))
              clear HFO HN2
              go_wp2_with fail
              clear x0 x1 x2 x3 x4 x5 x6 x7
              go_roundw
              case rel => exact ⟨i + 1, by omega, by go_num, HB9, HN3⟩
              case measure => simp [intOf]; omega
      · have hkn : i = v.e.length := by omega
        subst hkn
        obtain ⟨hBc, hPn⟩ := HEN.out B HP.out (by rw [HS0.out]; exact HNO.out)
        have HPN := Lib.hid hPn
        have hw3 : IntKind.i64.wrap (B + C) = B + C := by rw [IntKind.wrap_i64]; omega
        have hbc2 : B + C = c0 + C := by rw [hBc]
        have HBC := Lib.hid hBc
        clear hPn hBc
        go_wp2_with fail
        go_roundw
        case rel => exact ⟨c0 + C, rfl, by omega, HPN, HB⟩
        case measure => simp [intOf]; have := HBC.out; omega
set_option linter.unusedSimpArgs false in
set_option maxRecDepth 100000 in
set_option maxHeartbeats 4000000 in
theorem sChainTime_any (v : Mv) (k a b : Int) (w : World) (hr : RdMe w v) :
    Calls Tryz.prog 56 #[mvVal v, .int .i64 k, .int .i64 a, .int .i64 b] w fun e w' => e = .returned (.tuple #[.int .i64 (chainTime v.me k a b).1, .int .i64 (chainTime v.me k a b).2]) ∧ Below w.heap.size w w' := by
  have HX := Lib.hid (Bx.start (T := 28) hr)
  have HTM := Lib.hid (fun bo k0 kc W (hW : RdMe W v) (hd : Rd W bo k0 [a, b]) (hk1 : 0 < k0) (hk0 : k0 ≤ 1048576) => l17Code_any v k bo k0 kc [a, b] W hW hd hk1 hk0)
  by_cases hc : codeAn v.me k [a, b] = 0
  rotate_left
  · rw [show chainTime v.me k a b = (0, codeAn v.me k [a, b]) from by unfold chainTime; rw [if_neg hc]]
    have hcb : (codeAn v.me k [a, b] != 0) = true := by simp [hc]
    generalize codeAn v.me k [a, b] = cc at HTM hcb ⊢
    clear hr hc
    unfold mvVal at HTM ⊢
    go_enter Tryz.func56, Tryz.ntmps56
    go_upto_region 1 with fail
    generalize w.alloc (.cells #[.int .i64 v.id, .slice v.no v.n.length v.nc, .slice v.mo v.cs.length v.mc, .slice v.eo v.e.length v.ec] 28) = w1 at HX ⊢
    obtain ⟨z0, z1, z2, z3⟩ := HX.out.at_.all
    have bN := (Below.refl w1.heap.size w1).alloc (Nat.le_refl _) (.cells #[.int .i64 a, .int .i64 b] 2)
    have HX2 := Lib.hid (HX.out.call bN)
    have HD2 := Lib.hid (rd_two 2 a b w1)
    clear bN
    go_wp2_with fail
    refine (HTM.out _ _ _ _ HX2.out.rd HD2.out (by omega) (by omega)).mono ?_
    rintro e w3 ⟨rfl, b3⟩
    have HX3 := Lib.hid (HX2.out.call b3)
    clear b3 z0 z1 z2 z3 HX HX2 HD2
    go_wp2_with fail
    go_ret2
    exact ⟨rfl, HX3.out.below⟩
  rw [show chainTime v.me k a b = (topL (chainsL (cyc17 v.me k) (sent17 v.me k a) (sent17 v.me k b)), 0) from by unfold chainTime; rw [if_pos hc]]
  obtain ⟨⟨j, rfl, hj, hw⟩, hns⟩ := an_yes hc
  obtain ⟨na, rfl, hna, ho, -⟩ := hns a (by simp)
  obtain ⟨nb, rfl, hnb, hp, -⟩ := hns b (by simp)
  have ho : SdOk (dursum (inMode v.e j)) (sentL (inMode v.e j) (na : Int)) := ho
  have hp : SdOk (dursum (inMode v.e j)) (sentL (inMode v.e j) (nb : Int)) := hp
  rw [hc] at HTM
  rw [show chainsL (cyc17 v.me (j : Int)) (sent17 v.me (j : Int) (na : Int)) (sent17 v.me (j : Int) (nb : Int)) = chainsL (dursum (inMode v.e j)) (sentL (inMode v.e j) (na : Int)) (sentL (inMode v.e j) (nb : Int)) from rfl]
  have HTI := Lib.hid (fun W (hW : RdMe W v) => (by have h := l15Times_any v j (na : Int) W hW hw hj; rw [← sent_times] at h; exact h : Calls Tryz.prog 108 #[mvVal v, .int .i64 (j : Int), .int .i64 (na : Int)] W (Makes 2 W ((sentTo (inMode v.e j) (na : Int) (inMode v.e j).length).map Sd.st))))
  change Hid (∀ W, RdMe W v → Calls Tryz.prog 108 #[mvVal v, .int .i64 (j : Int), .int .i64 (na : Int)] W (Makes 2 W ((sentL (inMode v.e j) (na : Int)).map Sd.st))) at HTI
  have HEA := Lib.hid (fun t W (hW : RdMe W v) (h0 : 0 ≤ t) (h1 : t ≤ 200000) => l17End_any v j (na : Int) t W hW hw hj ho h0 h1)
  have HEB := Lib.hid (fun t W (hW : RdMe W v) (h0 : 0 ≤ t) (h1 : t ≤ 200000) => l17End_any v j (nb : Int) t W hW hw hj hp h0 h1)
  have HFA := Lib.hid (fun t (h0 : 0 ≤ t) => ho.first_le h0)
  have HFB := Lib.hid (fun t (h0 : 0 ≤ t) => hp.first_le h0)
  have htl : ((sentL (inMode v.e j) (na : Int)).map Sd.st).length = (sentL (inMode v.e j) (na : Int)).length := List.length_map ..
  have hget : ∀ i, i < (sentL (inMode v.e j) (na : Int)).length → ((sentL (inMode v.e j) (na : Int)).map Sd.st).getD i 0 = (sdOf (sentL (inMode v.e j) (na : Int)) i).st := fun i hi => by simp [List.getD, hi, sdOf_get hi]
  have HBD := Lib.hid (fun i (hi : i < (sentL (inMode v.e j) (na : Int)).length) => (by rw [hget i hi]; have h1 := ho.lo i hi; have h2 := ho.c1; omega : 0 ≤ ((sentL (inMode v.e j) (na : Int)).map Sd.st).getD i 0 ∧ ((sentL (inMode v.e j) (na : Int)).map Sd.st).getD i 0 ≤ 32000))
  have hcl : (chainsL (dursum (inMode v.e j)) (sentL (inMode v.e j) (na : Int)) (sentL (inMode v.e j) (nb : Int))).length = (sentL (inMode v.e j) (na : Int)).length := by simp [chainsL]
  have HNX := Lib.hid (fun i (hi : i < (sentL (inMode v.e j) (na : Int)).length) => (show ((chainsL (dursum (inMode v.e j)) (sentL (inMode v.e j) (na : Int)) (sentL (inMode v.e j) (nb : Int))).take (i + 1)).foldl max 0 = max (((chainsL (dursum (inMode v.e j)) (sentL (inMode v.e j) (na : Int)) (sentL (inMode v.e j) (nb : Int))).take i).foldl max 0) ((firstFrom (dursum (inMode v.e j)) (sentL (inMode v.e j) (nb : Int)) (firstFrom (dursum (inMode v.e j)) (sentL (inMode v.e j) (na : Int)) (((sentL (inMode v.e j) (na : Int)).map Sd.st).getD i 0 + 1)).fin).fin - (((sentL (inMode v.e j) (na : Int)).map Sd.st).getD i 0 + 1)) from by
    rw [max_fold_next (by rw [hcl]; exact hi), hget i hi]
    congr 1
    simp [chainsL, List.getD, hi, sdOf_get hi, chainFrom]))
  have HAL := Lib.hid (show topL (chainsL (dursum (inMode v.e j)) (sentL (inMode v.e j) (na : Int)) (sentL (inMode v.e j) (nb : Int))) = ((chainsL (dursum (inMode v.e j)) (sentL (inMode v.e j) (na : Int)) (sentL (inMode v.e j) (nb : Int))).take (sentL (inMode v.e j) (na : Int)).length).foldl max 0 from by
    rw [List.take_of_length_le (by rw [hcl]; exact Nat.le_refl _), max_fold_top (by rw [hcl]; exact ho.ne) (fun y hy => by have := chain_in ho hp hy; omega)])
  have hne := ho.ne
  have hle := ho.le
  clear hget hcl
  rw [HAL.out]
  clear HAL
  obtain ⟨F9, hF⟩ : ∃ F9 : Nat → Int, ∀ i, F9 i = ((chainsL (dursum (inMode v.e j)) (sentL (inMode v.e j) (na : Int)) (sentL (inMode v.e j) (nb : Int))).take i).foldl max 0 := ⟨_, fun _ => rfl⟩
  have H0 := Lib.hid (show F9 0 = 0 from by rw [hF]; rfl)
  simp only [← hF] at HNX ⊢
  clear hF
  obtain ⟨GA, hGA⟩ : ∃ GA : Int → Sd, ∀ t, GA t = firstFrom (dursum (inMode v.e j)) (sentL (inMode v.e j) (na : Int)) t := ⟨_, fun _ => rfl⟩
  obtain ⟨GB, hGB⟩ : ∃ GB : Int → Sd, ∀ t, GB t = firstFrom (dursum (inMode v.e j)) (sentL (inMode v.e j) (nb : Int)) t := ⟨_, fun _ => rfl⟩
  simp only [← hGA, ← hGB] at HEA HEB HFA HFB HNX
  clear hGA hGB
  generalize (sentL (inMode v.e j) (na : Int)).map Sd.st = T at HTI htl HBD HNX
  generalize (sentL (inMode v.e j) (na : Int)).length = n at htl HBD HNX hne hle ⊢
  clear hr hc hj hw hns ho hp
  unfold mvVal at HTM HTI HEA HEB ⊢
  go_enter Tryz.func56, Tryz.ntmps56
  go_upto_region 1 with fail
  generalize w.alloc (.cells #[.int .i64 v.id, .slice v.no v.n.length v.nc, .slice v.mo v.cs.length v.mc, .slice v.eo v.e.length v.ec] 28) = w1 at HX ⊢
  obtain ⟨z0, z1, z2, z3⟩ := HX.out.at_.all
  have bN := (Below.refl w1.heap.size w1).alloc (Nat.le_refl _) (.cells #[.int .i64 (na : Int), .int .i64 (nb : Int)] 2)
  have HX2 := Lib.hid (HX.out.call bN)
  have HD2 := Lib.hid (rd_two 2 (na : Int) (nb : Int) w1)
  clear bN
  go_wp2_with fail
  refine (HTM.out _ _ _ _ HX2.out.rd HD2.out (by omega) (by omega)).mono ?_
  rintro e w3 ⟨rfl, b3⟩
  have HX3 := Lib.hid (HX2.out.call b3)
  clear b3 z0 z1 z2 z3 HX HX2 HD2
  obtain ⟨z0, z1, z2, z3⟩ := HX3.out.at_.all
  go_wp2_with fail
  refine (HTI.out _ HX3.out.rd).mono ?_
  rintro e w4 ⟨tv, rfl, to1, b4⟩
  obtain ⟨ta, tc, rfl, to2, -⟩ := to1.get
  obtain ⟨ga, oa, rfl⟩ := own_some17 to2 (by omega)
  have HX4 := Lib.hid (HX3.out.call b4)
  have HCELL := Lib.hid (fun i (hi : i < n) W (hW : Below w4.heap.size w4 W) => (show W.cell? ⟨ga, oa + i, none⟩ = some (.int .i64 (T.getD i 0)) from own_cell17 (to2.below hW) (by omega)))
  clear z0 z1 z2 z3 b4 HX3 HTI to1 to2
  obtain ⟨m0, hm0⟩ : ∃ m0, m0 = w.heap.size := ⟨_, rfl⟩
  rw [← hm0] at HX4 ⊢
  have HM0 := Lib.hid hm0
  clear hm0
  go_wp2_with fail
  go_loopw [12, 13] (fun s i wr => ∃ i0 : Nat, i0 ≤ n ∧ i = .int .i64 i0 ∧ s = .int .i64 (F9 i0) ∧ Hid (Below w4.heap.size w4 wr)) (fun _ i _ => n - (intOf i).toNat)
  case atStart => exact ⟨0, Nat.zero_le _, rfl, by rw [H0.out], Lib.hid (Below.refl _ _)⟩
  case round =>
    obtain ⟨i, hi, rfl, rfl, HB⟩ := hrel
    by_cases hlt : i < n
    · have hlti : (i : Int) < (n : Int) := by omega
      have x1 := HCELL.out i hlt wr HB.out
      have hbd := HBD.out i hlt
      have HN := Lib.hid (HNX.out i hlt)
      generalize T.getD i 0 = t at x1 hbd HN
      have hw1 : IntKind.i64.wrap (t + 1) = t + 1 := by rw [IntKind.wrap_i64]; omega
      have ha := HFA.out (t + 1) (by omega)
      have HCA := Lib.hid (fun W hW => HEA.out (t + 1) W hW (by omega) (by omega))
      have hfa : 0 ≤ (GA (t + 1)).fin ∧ (GA (t + 1)).fin ≤ 100000 := by unfold Sd.fin; omega
      have hfa2 : t + 1 ≤ (GA (t + 1)).fin := by unfold Sd.fin; omega
      clear ha
      generalize (GA (t + 1)).fin = f1 at HN HCA hfa hfa2
      have hb := HFB.out f1 hfa.1
      have HCB := Lib.hid (fun W hW => HEB.out f1 W hW hfa.1 (by omega))
      have hfb : 0 ≤ (GB f1).fin ∧ (GB f1).fin ≤ 200000 := by unfold Sd.fin; omega
      clear hb
      generalize (GB f1).fin = f2 at HN HCB hfb
      have hww : IntKind.i64.wrap (f2 - (t + 1)) = f2 - (t + 1) := by rw [IntKind.wrap_i64]; omega
      generalize F9 i = z at HN ⊢
      go_upto_region 10 with fail
      have HX5 := Lib.hid (HX4.out.call (Below.drew HB.out))
      have HB5 := Lib.hid (Below.drew HB.out)
      have hq : wr.drew.cell? ⟨m0, 0, none⟩ = some (.int .i64 v.id) ∧ wr.drew.cell? ⟨m0, 1, none⟩ = some (.slice v.no v.n.length v.nc) ∧ wr.drew.cell? ⟨m0, 2, none⟩ = some (.slice v.mo v.cs.length v.mc) ∧ wr.drew.cell? ⟨m0, 3, none⟩ = some (.slice v.eo v.e.length v.ec) := ⟨HX5.out.at_.all.1, HX5.out.at_.all.2.1, HX5.out.at_.all.2.2.1, HX5.out.at_.all.2.2.2⟩
      clear x1 HB
      refine wp_region_held_drew (S := fun w' => w'.cell? ⟨m0, 0, none⟩ = some (.int .i64 v.id) ∧ w'.cell? ⟨m0, 1, none⟩ = some (.slice v.no v.n.length v.nc) ∧ w'.cell? ⟨m0, 2, none⟩ = some (.slice v.mo v.cs.length v.mc) ∧ w'.cell? ⟨m0, 3, none⟩ = some (.slice v.eo v.e.length v.ec)) (by kernel_rfl) (hq) (fun hHeld => ?_)
      generalize wr.drew = y5 at HX5 HB5 hq hHeld ⊢
      refine wpAnyH_take (i := 0) (v := ?_) rfl (by kernel_rfl) (by kernel_rfl) (by kernel_rfl) (fun _ _ _ h => h) (Or.inl ⟨by rfl, ?_⟩) (by assumption) ?_
      rotate_left
      · (intro w hSw; (try dsimp only at hSw); go_simp; (try with_reducible rfl))
      try simp only [pa, pb, pc, Act.put, pe, pf, pg]
      refine wpAnyH_take (i := 1) (v := ?_) rfl (by kernel_rfl) (by kernel_rfl) (by kernel_rfl) (fun _ _ _ h => h) (Or.inl ⟨by rfl, ?_⟩) (by assumption) ?_
      rotate_left
      · (intro w hSw; (try dsimp only at hSw); go_simp; (try with_reducible rfl))
      try simp only [pa, pb, pc, Act.put, pe, pf, pg]
      refine wpAnyH_take (i := 2) (v := ?_) rfl (by kernel_rfl) (by kernel_rfl) (by kernel_rfl) (fun _ _ _ h => h) (Or.inl ⟨by rfl, ?_⟩) (by assumption) ?_
      rotate_left
      · (intro w hSw; (try dsimp only at hSw); go_simp; (try with_reducible rfl))
      try simp only [pa, pb, pc, Act.put, pe, pf, pg]
      refine wpAnyH_take (i := 3) (v := ?_) rfl (by kernel_rfl) (by kernel_rfl) (by kernel_rfl) (fun _ _ _ h => h) (Or.inl ⟨by rfl, ?_⟩) (by assumption) ?_
      rotate_left
      · (intro w hSw; (try dsimp only at hSw); go_simp; (try with_reducible rfl))
      try simp only [pa, pb, pc, Act.put, pe, pf, pg]
      refine wpAnyH_take (i := 4) (v := ?_) rfl (by kernel_rfl) (by kernel_rfl) (by kernel_rfl) (fun _ _ _ h => h) (Or.inl ⟨by rfl, ?_⟩) (by assumption) ?_
      rotate_left
      · (intro w hSw; (try dsimp only at hSw); go_simp; (try with_reducible rfl))
      try simp only [pa, pb, pc, Act.put, pe, pf, pg]
      refine wpAnyH_take (i := 5) (v := ?_) rfl (by kernel_rfl) (by kernel_rfl) (by kernel_rfl) (fun _ _ _ h => h) (Or.inl ⟨by rfl, ?_⟩) (by assumption) ?_
      rotate_left
      · (intro w hSw; (try dsimp only at hSw); go_simp; (try with_reducible rfl))
      try simp only [pa, pb, pc, Act.put, pe, pf, pg]
      refine wpAnyH_take (i := 6) (v := ?_) rfl (by kernel_rfl) (by kernel_rfl) (by kernel_rfl) (fun _ _ _ h => h) (Or.inl ⟨by rfl, ?_⟩) (by assumption) ?_
      rotate_left
      · (intro w hSw; (try dsimp only at hSw); go_simp; (try with_reducible rfl))
      try simp only [pa, pb, pc, Act.put, pe, pf, pg]
      refine wpAnyH_take (i := 7) (v := ?_) rfl (by kernel_rfl) (by kernel_rfl) (by kernel_rfl) (fun _ _ _ h => h) (Or.inl ⟨by rfl, ?_⟩) (by assumption) ?_
      rotate_left
      · (intro w hSw; (try dsimp only at hSw); go_simp; (try with_reducible rfl))
      try simp only [pa, pb, pc, Act.put, pe, pf, pg]
      refine wpAnyH_take (i := 10) (v := ?_) rfl (by kernel_rfl) (by kernel_rfl) (by kernel_rfl) (fun _ _ _ h => h) (Or.inl ⟨by rfl, ?_⟩) (by assumption) ?_
      rotate_left
      · (intro w hSw; (try dsimp only at hSw); go_simp; (try with_reducible rfl))
      try simp only [pa, pb, pc, Act.put, pe, pf, pg]
      refine wpAnyH_ready (rs := [8]) (by kernel_rfl) (by simp) (AllReadyH.cons rfl (fun K hK => ?_) AllReadyH.nil)
      go_simp
      refine (HCA.out y5 HX5.out.rd).mono ?_
      rintro e y6 ⟨rfl, b6⟩
      have HX6 := Lib.hid (HX5.out.call b6)
      have HB6 := Lib.hid (below_two HB5.out b6)
      have hqn : y6.cell? ⟨m0, 0, none⟩ = some (.int .i64 v.id) ∧ y6.cell? ⟨m0, 1, none⟩ = some (.slice v.no v.n.length v.nc) ∧ y6.cell? ⟨m0, 2, none⟩ = some (.slice v.mo v.cs.length v.mc) ∧ y6.cell? ⟨m0, 3, none⟩ = some (.slice v.eo v.e.length v.ec) := ⟨HX6.out.at_.all.1, HX6.out.at_.all.2.1, HX6.out.at_.all.2.2.1, HX6.out.at_.all.2.2.2⟩
      clear b6 hq HX5 HB5
      have hq := hqn
      clear hqn
      go_wp2_with fail
      refine hK.out _ _ ?_ (fun hHeld => ?_)
      · exact hq
      clear hK K
      try simp only [pa, pb, pc, Act.put, pe, pf, pg]
      refine wpAnyH_ready (rs := [9]) (by kernel_rfl) (by simp) (AllReadyH.cons rfl (fun K hK => ?_) AllReadyH.nil)
      go_simp
      refine (HCB.out y6 HX6.out.rd).mono ?_
      rintro e y7 ⟨rfl, b7⟩
      have HX7 := Lib.hid (HX6.out.call b7)
      have HB7 := Lib.hid (below_two HB6.out b7)
      have hqn : y7.cell? ⟨m0, 0, none⟩ = some (.int .i64 v.id) ∧ y7.cell? ⟨m0, 1, none⟩ = some (.slice v.no v.n.length v.nc) ∧ y7.cell? ⟨m0, 2, none⟩ = some (.slice v.mo v.cs.length v.mc) ∧ y7.cell? ⟨m0, 3, none⟩ = some (.slice v.eo v.e.length v.ec) := ⟨HX7.out.at_.all.1, HX7.out.at_.all.2.1, HX7.out.at_.all.2.2.1, HX7.out.at_.all.2.2.2⟩
      clear b7 hq HX6 HB6
      have hq := hqn
      clear hqn
      go_wp2_with fail
      refine hK.out _ _ ?_ (fun hHeld => ?_)
      · exact hq
      clear hK K
      try simp only [pa, pb, pc, Act.put, pe, pf, pg]
      refine wpAnyH_take (i := 11) (v := ?_) rfl (by kernel_rfl) (by kernel_rfl) (by kernel_rfl) (fun _ _ _ h => h) (Or.inl ⟨by rfl, ?_⟩) (by assumption) ?_
      rotate_left
      · (intro w hSw; (try dsimp only at hSw); go_simp; (try with_reducible rfl))
      try simp only [pa, pb, pc, Act.put, pe, pf, pg]
      refine wpAnyH_take (i := 12) (v := ?_) rfl (by kernel_rfl) (by kernel_rfl) (by kernel_rfl) (fun _ _ _ h => h) (Or.inl ⟨by rfl, ?_⟩) (by assumption) ?_
      rotate_left
      · (intro w hSw; (try dsimp only at hSw); go_simp; (try with_reducible rfl))
      try simp only [pa, pb, pc, Act.put, pe, pf, pg]
      refine wpAnyH_take (i := 13) (v := ?_) rfl (by kernel_rfl) (by kernel_rfl) (by kernel_rfl) (fun _ _ _ h => h) (Or.inl ⟨by rfl, ?_⟩) (by assumption) ?_
      rotate_left
      · (intro w hSw; (try dsimp only at hSw); go_simp; (try with_reducible rfl))
      try simp only [pa, pb, pc, Act.put, pe, pf, pg]
      refine wpAnyH_done (by kernel_rfl) ?_ _
      clear hq
      go_wp2_with fail
      go_roundw
      case rel => exact ⟨i + 1, by omega, by go_num, by rw [HN.out]; first | rfl | rw [max_if17], HB7⟩
      case measure => simp [intOf]; omega
    · have hkn : i = n := by omega
      subst hkn
      go_wp2_with fail
      go_ret2
      exact ⟨rfl, below_two HX4.out.below HB.out⟩
end
end Go.Proofs.YthihjhidjnadaaaGreat
