/-
  Chapter 16: PlanDemands, SlotsNeeded, PlanTable, ArePossible of the model.
-/
import Derived.Test.YtbbodgeoenjdkaaPlS5
import Derived.Test.YtbbodgeoenjdkaaTbL
namespace Go.Proofs.Ytbbodgeoenjdkaa
open Go.RowKit

set_option maxHeartbeats 1000000 in
set_option maxRecDepth 100000 in
/-- spec.PlanDemands. -/
theorem planDemandsS_any (ao : Option Addr) (n cap : Nat) (t : List Dm) (R S : Int) (w : World) (hr : RdDm w ao n t) (hn : n ≤ 1048576) :
    Calls Try.prog 16 #[.slice ao n cap, .int .i64 R, .int .i64 S] w (MakesBk2 31 w (planDemands t R S).1 (planDemands t R S).2) := by
  have HC := Lib.hid (l16Code_any ao n cap t R S w hr (by omega))
  have HR := Lib.hid hr; clear hr
  by_cases hc : planCode t R S = 0
  · have HK := Lib.hid (okPl hc)
    obtain ⟨r, rfl⟩ : ∃ r : Nat, R = (r : Int) := ⟨R.toNat, by have := isPow_iff.1 HK.out.R; omega⟩
    obtain ⟨s, rfl⟩ : ∃ s : Nat, S = (s : Int) := ⟨S.toNat, by have := HK.out.S0; omega⟩
    have HP := Lib.hid (fun W (hW : RdDm W ao n t) => l16Plan_any ao n cap t r s W hW hn (demands_pow HK.out.dm) (by have := isPow_iff.1 HK.out.R; omega) HK.out.R8 (by have := HK.out.S0; omega) HK.out.S16)
    have HC0 := Lib.hid hc
    rw [hc] at HC
    clear hc
    go_enter Try.func16, Try.ntmps16
    go_wp2_with fail
    refine HC.out.mono ?_
    rintro e w1 ⟨rfl, b1⟩
    have HB1 := Lib.hid b1
    have HPP := Lib.hid (HP.out w1 (HR.out.below b1))
    clear b1
    go_wp2_with fail
    refine HPP.out.mono ?_
    rintro e w2 (⟨l, v, hl, rfl, o2, b2⟩ | ⟨hl, rfl, b2⟩)
    · have HE := Lib.hid (planDemands_some (R := (r : Int)) (S := (s : Int)) HC0.out hl)
      have HF := Lib.hid (o2.more HB1.out.size)
      have HBF := Lib.hid (below_two HB1.out b2)
      clear hl o2 b2
      go_wp2
      go_ret2
      exact ⟨v, by rw [HE.out]; rfl, by rw [HE.out]; exact HF.out, HBF.out⟩
    · have HE := Lib.hid (planDemands_none (R := (r : Int)) (S := (s : Int)) HC0.out hl)
      have HBF := Lib.hid (below_two HB1.out b2)
      clear hl b2
      go_wp2
      go_ret2
      exact ⟨.slice none 0 0, by rw [HE.out]; rfl, by rw [HE.out]; exact OwnBk.nil_, HBF.out⟩
  · have HE := Lib.hid (planDemands_bad hc)
    have hne : (planCode t R S != 0) = true := by simpa using hc
    generalize planCode t R S = q at hne HE HC
    clear hc
    go_enter Try.func16, Try.ntmps16
    go_wp2_with fail
    refine HC.out.mono ?_
    rintro e w1 ⟨rfl, b1⟩
    go_wp2
    go_ret2
    exact ⟨.slice none 0 0, by rw [HE.out]; rfl, by rw [HE.out]; exact OwnBk.nil_, b1⟩
set_option maxHeartbeats 1000000 in
set_option maxRecDepth 100000 in
/-- spec.PlanTable. -/
theorem planTableS_any (ao : Option Addr) (n cap : Nat) (t : List Dm) (R S : Int) (bo : Option Addr) (m cap2 : Nat) (bs : List Bk) (w : World) (hr : RdDm w ao n t) (hn : n ≤ 1048576) (hb : RdBk w bo m bs) :
    Calls Try.prog 23 #[.slice ao n cap, .int .i64 R, .int .i64 S, .slice bo m cap2] w (MakesT2 45 2 w (planTable t R S bs).1 (planTable t R S bs).2) := by
  have HC := Lib.hid (l16Code_any ao n cap t R S w hr (by omega))
  have HR := Lib.hid hr; clear hr
  have HRb := Lib.hid hb; clear hb
  by_cases hc : planCode t R S = 0
  · have HK := Lib.hid (okPl hc)
    obtain ⟨r, rfl⟩ : ∃ r : Nat, R = (r : Int) := ⟨R.toNat, by have := isPow_iff.1 HK.out.R; omega⟩
    obtain ⟨s, rfl⟩ : ∃ s : Nat, S = (s : Int) := ⟨S.toNat, by have := HK.out.S0; omega⟩
    have HP := Lib.hid (fun W (hW : RdDm W ao n t) (hV : RdBk W bo m bs) => l16Table_any ao n cap t r s bo m cap2 bs W hW hV hn (demands_pow HK.out.dm) (by have := isPow_iff.1 HK.out.R; omega) HK.out.R8 (by have := HK.out.S0; omega) HK.out.S16)
    have HC0 := Lib.hid hc
    rw [hc] at HC
    clear hc
    go_enter Try.func23, Try.ntmps23
    go_wp2_with fail
    refine HC.out.mono ?_
    rintro e w1 ⟨rfl, b1⟩
    have HB1 := Lib.hid b1
    have HPP := Lib.hid (HP.out w1 (HR.out.below b1) (HRb.out.below b1))
    clear b1
    go_wp2_with fail
    refine HPP.out.mono ?_
    rintro e w2 (⟨U, v, hl, rfl, ⟨rs, o2, hx, -⟩, b2⟩ | ⟨hl, ⟨v, rfl⟩, b2⟩)
    · have HE := Lib.hid (planTable_some (R := (r : Int)) (S := (s : Int)) HC0.out hl)
      have HF := Lib.hid (o2.more HB1.out.size)
      have HX := Lib.hid hx
      have HBF := Lib.hid (below_two HB1.out b2)
      clear hl o2 b2 hx
      go_wp2
      go_ret2
      exact ⟨v, rs, by rw [HE.out]; exact HX.out, by rw [HE.out]; rfl, HF.out, HBF.out⟩
    · have HE := Lib.hid (planTable_none (R := (r : Int)) (S := (s : Int)) HC0.out hl)
      have HBF := Lib.hid (below_two HB1.out b2)
      clear hl b2
      go_wp2
      go_ret2
      exact ⟨.slice none 0 0, [], by rw [HE.out]; rfl, by rw [HE.out]; rfl, OwnT.nil_, HBF.out⟩
  · have HE := Lib.hid (planTable_bad (bs := bs) hc)
    have hne : (planCode t R S != 0) = true := by simpa using hc
    generalize planCode t R S = q at hne HE HC
    clear hc
    go_enter Try.func23, Try.ntmps23
    go_wp2_with fail
    refine HC.out.mono ?_
    rintro e w1 ⟨rfl, b1⟩
    go_wp2
    go_ret2
    exact ⟨.slice none 0 0, [], by rw [HE.out]; rfl, by rw [HE.out]; rfl, OwnT.nil_, b1⟩
/-- spec.ArePossible. -/
theorem arePossibleS_any (ao : Option Addr) (n cap : Nat) (t : List Dm) (R S : Int) (bo : Option Addr) (m cap2 : Nat) (bs : List Bk) (w : World) (hr : RdDm w ao n t) (hn : n ≤ 1048576) (hb : RdBk w bo m bs) :
    Calls Try.prog 24 #[.slice ao n cap, .int .i64 R, .int .i64 S, .slice bo m cap2] w fun e w' => e = .returned (.bool (arePossible t R S bs)) ∧ Below w.heap.size w w' := by
  have HP := Lib.hid (planTableS_any ao n cap t R S bo m cap2 bs w hr hn hb)
  have HE := Lib.hid (show arePossible t R S bs = ((planTable t R S bs).2 == 0) from by unfold arePossible; rfl)
  generalize (planTable t R S bs).2 = c at HP HE
  clear hr hb
  go_enter Try.func24, Try.ntmps24
  go_wp2_with fail
  refine HP.out.mono ?_
  rintro e w1 ⟨v, rs, -, rfl, -, b1⟩
  go_wp2
  go_ret
  exact ⟨by rw [HE.out]; rfl, b1⟩
/-- The least number of slots with which planning succeeds is that of the greatest slot. -/
theorem least_needed {t : List Dm} {r s : Nat} {l : List Bk} (h : planCode t (r : Int) 16 = 0) (h1 : 1 ≤ s) (h2 : s ≤ 16) (hl : plPlan tab0 r s 0 t = some l) (hn : ∀ c, 1 ≤ c → c < s → plPlan tab0 r c 0 t = none) : slotsNeeded t (r : Int) = ((s : Int), 0) := by
  have hm := (plPlan_more h2 t tab0 0 hl).1
  rw [slotsNeeded_some (R := (r : Int)) h hm]
  have h3 := (plPlan_most hm h1 h2).1 (by rw [hl]; rfl)
  have h4 : 1 ≤ plMost l := (plMost_ge l 1).1
  by_cases e : plMost l = (s : Int)
  · rw [e]
  · exfalso
    obtain ⟨c, hc⟩ : ∃ c : Nat, plMost l = (c : Int) := ⟨(plMost l).toNat, by omega⟩
    have h5 := (plPlan_most (S := c) hm (by omega) (by omega)).2 (by omega)
    rw [hn c (by omega) (by omega)] at h5
    cases h5
theorem planCode_1 (t : List Dm) (R : Int) : planCode t R 1 = planCode t R 16 := by
  unfold planCode plFrame
  cases areDms t <;> cases isPow R <;> rfl
set_option maxHeartbeats 2000000 in
set_option maxRecDepth 100000 in
/-- spec.SlotsNeeded. -/
theorem slotsNeededS_any (ao : Option Addr) (n cap : Nat) (t : List Dm) (R : Int) (w : World) (hr : RdDm w ao n t) (hn : n ≤ 1048576) :
    Calls Try.prog 31 #[.slice ao n cap, .int .i64 R] w fun e w' => e = .returned (.tuple #[.int .i64 (slotsNeeded t R).1, .int .i64 (slotsNeeded t R).2]) ∧ Below w.heap.size w w' := by
  have HC := Lib.hid (l16Code_any ao n cap t R 1 w hr (by omega))
  rw [planCode_1] at HC
  have HR := Lib.hid hr; clear hr
  by_cases hc : planCode t R 16 = 0
  · have HK := Lib.hid (okPl hc)
    obtain ⟨r, rfl⟩ : ∃ r : Nat, R = (r : Int) := ⟨R.toNat, by have := isPow_iff.1 HK.out.R; omega⟩
    have HP := Lib.hid (fun s W (hW : RdDm W ao n t) (h0 : 0 < s) (h1 : s ≤ 16) => l16Plan_any ao n cap t r s W hW hn (demands_pow HK.out.dm) (by have := isPow_iff.1 HK.out.R; omega) HK.out.R8 h0 h1)
    have HC0 := Lib.hid hc
    rw [hc] at HC
    clear hc
    go_enter Try.func31, Try.ntmps31
    go_wp2_with fail
    refine HC.out.mono ?_
    rintro e w1 ⟨rfl, b1⟩
    have HB1 := Lib.hid b1
    clear b1
    go_wp2
    go_loopw [7] (fun i wr => ∃ s : Nat, i = .int .i64 (s : Int) ∧ 1 ≤ s ∧ s ≤ 17 ∧ Hid (∀ c, 1 ≤ c → c < s → plPlan tab0 r c 0 t = none) ∧ Hid (Below w.heap.size w wr)) (fun i _ => 17 - (intOf i).toNat)
    case atStart => exact ⟨1, rfl, by omega, by omega, fun c h1 h2 => absurd h2 (by omega), HB1.out⟩
    case round =>
      clear HB1
      obtain ⟨s, rfl, hs1, hs2, HN, HB⟩ := hrel
      by_cases hlt : s ≤ 16
      · have hlt' : (s : Int) ≤ 16 := by omega
        have HPP := Lib.hid (HP.out s wr (HR.out.below HB.out) (by omega) hlt)
        go_wp2_with fail
        refine HPP.out.mono ?_
        rintro e w2 (⟨l, v, hl, rfl, -, b2⟩ | ⟨hl, rfl, b2⟩)
        · have HE := Lib.hid (least_needed HC0.out hs1 hlt hl HN.out)
          have HBF := Lib.hid (below_two HB.out b2)
          clear hl b2
          go_wp2
          go_ret2
          exact ⟨by rw [HE.out]; rfl, HBF.out⟩
        · have HNN := Lib.hid (fun (c : Nat) (h1 : 1 ≤ c) (h2 : c < s + 1) => (by
            by_cases e1 : c = s
            · subst e1; exact hl
            · exact HN.out c h1 (by omega) : plPlan tab0 r c 0 t = none))
          have HBF := Lib.hid (below_two HB.out b2)
          clear hl b2
          go_wp2
          go_roundw
          case rel => exact ⟨s + 1, by go_num, by omega, by omega, HNN.out, HBF.out⟩
          case measure => simp [intOf]; omega
      · have hgt : ¬ (s : Int) ≤ 16 := by omega
        have HE := Lib.hid (slotsNeeded_none (R := (r : Int)) HC0.out (HN.out 16 (by omega) (by omega)))
        go_wp2
        go_ret2
        exact ⟨by rw [HE.out]; rfl, HB.out⟩
  · have HE := Lib.hid (slotsNeeded_bad hc)
    have hne : (planCode t R 16 != 0) = true := by simpa using hc
    generalize planCode t R 16 = q at hne HE HC
    clear hc
    go_enter Try.func31, Try.ntmps31
    go_wp2_with fail
    refine HC.out.mono ?_
    rintro e w1 ⟨rfl, b1⟩
    go_wp2
    go_ret2
    exact ⟨by rw [HE.out]; rfl, b1⟩
theorem planDemands_small (t : List Dm) (R S : Int) : (planDemands t R S).1.length ≤ 1048576 := by
  unfold planDemands
  split
  · simp
  · rename_i h
    have h0 : planCode t R S = 0 := by simpa using h
    split
    · simp
    · rename_i l hl
      rw [plPlan_len _ _ _ hl]
      exact (okPl h0).len
theorem planTable_small (t : List Dm) (R S : Int) (bs : List Bk) : smallT (planTable t R S bs).1 := by
  have h0 : smallT [] := ⟨by simp, by simp⟩
  unfold planTable
  split
  · exact h0
  · rename_i h
    have h1 : planCode t R S = 0 := by simpa using h
    split
    · exact h0
    · rename_i U hU
      have hk := okPl h1
      have h8 := hk.R8; have h16 := hk.S16
      refine ⟨by rw [plRows_len]; omega, ?_⟩
      have e : ((plRows U R.toNat S.toNat).map List.length) = List.replicate R.toNat S.toNat := by
        rw [plRows_eq, List.map_map]
        refine List.eq_replicate_iff.2 ⟨by simp, fun x hx => ?_⟩
        obtain ⟨i, _, rfl⟩ := List.mem_map.1 hx
        simp [plRow_len]
      rw [e, List.sum_replicate_nat]
      exact Nat.le_trans (Nat.mul_le_mul h8 h16) (by decide)
end Go.Proofs.Ytbbodgeoenjdkaa
