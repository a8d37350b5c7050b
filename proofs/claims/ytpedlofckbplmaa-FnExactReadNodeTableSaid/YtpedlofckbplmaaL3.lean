/-
  Chapter 10: the laws' marks on entries: laid, and found again.
-/
import Derived.Test.YtpedlofckbplmaaL2
namespace Go.Proofs.Ytpedlofckbplmaa
open Go.RowKit

set_option maxHeartbeats 2000000 in
set_option maxRecDepth 100000 in
theorem markNodes_row (g n cap base : Nat) (t : List Nd) (q : Int) (w : World) (hl : t.length = n) (ho : OwnN 59 w base (.slice (some ⟨g, 0, none⟩) n cap) t) (hn : n ≤ 4194304) (hq0 : 1 ≤ q) (hq1 : q ≤ 16777216) :
    Calls Try.prog 24 #[.slice (some ⟨g, 0, none⟩) n cap, .int .i64 q] w fun e w' => e = .returned (.int .i64 (q + 4 * n)) ∧ OwnN 59 w' base (.slice (some ⟨g, 0, none⟩) n cap) (marksN q n) ∧ w.grownBy w' (some g) := by
  have HL := Lib.hid hl
  have ho' : OwnN 59 w base (.slice (some ⟨g, 0, none⟩) n cap) (markToN q t 0) := by rw [markToN_zero]; exact ho
  have HO := Lib.hid ho'; clear ho ho'
  go_enter Try.func24, Try.ntmps24
  go_wp2_with fail
  go_loopw [1, 5] (fun v i wr => ∃ k : Nat, k ≤ n ∧ i = .int .i64 k ∧ v = .int .i64 (q + 4 * k) ∧ OwnN 59 wr base (.slice (some ⟨g, 0, none⟩) n cap) (markToN q t k) ∧ w.grownBy wr (some g)) (fun _ i _ => n - (intOf i).toNat)
  case atStart => exact ⟨0, Nat.zero_le _, rfl, by simp, HO.out, World.grownBy.refl _ _⟩
  case round =>
    clear HO
    obtain ⟨k, hk, rfl, rfl, ho, hg⟩ := hrel
    by_cases hlt : k < n
    · have hkt : k < t.length := by rw [HL.out]; exact hlt
      have hlen := (markToN_len q t k (by omega)).trans HL.out
      have hkl : k < (markToN q t k).length := by omega
      have hsucc := markToN_succ q t k hkt
      obtain ⟨mt, hmt⟩ : ∃ mt, mt = markToN q t k := ⟨_, rfl⟩
      rw [← hmt] at ho hlen hsucc hkl
      obtain ⟨K, hK⟩ : ∃ K : Nat, K = (q + 4 * k).toNat := ⟨_, rfl⟩
      have hKi : q + 4 * (k : Int) = (K : Int) := by omega
      have hmk : mkN q k = ⟨(K : Int), mText (K + 1), (K : Int) + 1 + 1, ((K : Int) + 1 + 1 + 1) % 3 == 0⟩ := by
        unfold mkN
        rw [hKi]
        have e1 : ((K : Int) + 1).toNat = K + 1 := by omega
        have e2 : (K : Int) + 2 = (K : Int) + 1 + 1 := by omega
        have e3 : (K : Int) + 3 = (K : Int) + 1 + 1 + 1 := by omega
        rw [e1, e2, e3]
      rw [hmk] at hsucc
      rw [hKi]
      have hK0 : 0 < K := by omega
      have hK1 : K ≤ 33554432 := by omega
      have hK4 : q + 4 * ((k : Int) + 1) = (K : Int) + 4 := by omega
      have hnext : q + 4 * ((k + 1 : Nat) : Int) = (K : Int) + 4 := by omega
      have HNEXT := Lib.hid hnext; have HSUCC := Lib.hid hsucc; have HG := Lib.hid hg; have HLEN := Lib.hid hlen; have HKL := Lib.hid hkl
      generalize hz : ndOf mt k = z
      obtain ⟨zi, zn, zf, zp⟩ := z
      have hin := (ho.store hlen hlt Nd.zero).1
      rw [hz] at hin
      obtain ⟨d0, d1, d2, d3⟩ := hin
      obtain ⟨f0, o0, b0⟩ := ho.field (j := 0) (u := .int .i64 (K : Int)) (y := ⟨(K : Int), zn, zf, zp⟩) hlen hlt (by omega) (by rw [hz]; rfl)
      have G0 := Lib.hid (grown_trans HG.out (grown_set wr g (k * 4 + 0) (.int .i64 (K : Int))))
      have O0 := Lib.hid o0
      clear hnext hsucc hg hlen hkl hmt hK hKi hmk b0 o0 hK4 ho
      simp only [Nat.add_zero] at f0 O0 G0
      go_wp2_with fail
      refine (markText_any (K + 1) _ (by omega) (by omega)).mono ?_
      rintro e w2 ⟨rfl, b2⟩
      clear d0 d1 d2 d3 f0
      have O1 := Lib.hid (O0.out.below b2)
      have G1 := Lib.hid (grown_trans G0.out (grown_of_b b2 _))
      clear b2 O0 G0
      have hl1 : (mt.set k ⟨(K : Int), zn, zf, zp⟩).length = n := by rw [List.length_set]; exact HLEN.out
      have hin1 := (O1.out.store hl1 hlt Nd.zero).1
      rw [ndOf_set HKL.out] at hin1
      obtain ⟨d0, d1, d2, d3⟩ := hin1
      obtain ⟨f1, o2, -⟩ := O1.out.field (j := 1) (u := .string (mText (K + 1))) (y := ⟨(K : Int), mText (K + 1), zf, zp⟩) hl1 hlt (by omega) (by rw [ndOf_set HKL.out]; rfl)
      obtain ⟨f2, -, -⟩ := O1.out.field (j := 2) (u := .int .i64 0) (y := ⟨(K : Int), zn, 0, zp⟩) hl1 hlt (by omega) (by rw [ndOf_set HKL.out]; rfl)
      obtain ⟨f3, -, -⟩ := O1.out.field (j := 3) (u := .bool true) (y := ⟨(K : Int), zn, zf, true⟩) hl1 hlt (by omega) (by rw [ndOf_set HKL.out]; rfl)
      rw [List.set_set] at o2
      have hl2 : (mt.set k ⟨(K : Int), mText (K + 1), zf, zp⟩).length = n := by rw [List.length_set]; exact HLEN.out
      obtain ⟨-, o3, -⟩ := o2.field (j := 2) (u := .int .i64 ((K : Int) + 2)) (y := ⟨(K : Int), mText (K + 1), (K : Int) + 1 + 1, zp⟩) hl2 hlt (by omega) (by rw [ndOf_set HKL.out]; rfl)
      rw [List.set_set] at o3
      have hl3 : (mt.set k ⟨(K : Int), mText (K + 1), (K : Int) + 1 + 1, zp⟩).length = n := by rw [List.length_set]; exact HLEN.out
      obtain ⟨-, o4, -⟩ := o3.field (j := 3) (u := .bool (((K : Int) + 1 + 1 + 1) % 3 == 0)) (y := ⟨(K : Int), mText (K + 1), (K : Int) + 1 + 1, ((K : Int) + 1 + 1 + 1) % 3 == 0⟩) hl3 hlt (by omega) (by rw [ndOf_set HKL.out]; rfl)
      rw [List.set_set, HSUCC.out] at o4
      have g2 := grown_trans G1.out (grown_set w2 g (k * 4 + 1) (.string (mText (K + 1))))
      have g3 := grown_trans g2 (grown_set _ g (k * 4 + 2) (.int .i64 ((K : Int) + 1 + 1)))
      have g4 := grown_trans g3 (grown_set _ g (k * 4 + 3) (.bool (((K : Int) + 1 + 1 + 1) % 3 == 0)))
      have O4 := Lib.hid o4; have G4 := Lib.hid g4
      clear hl1 hl2 hl3 o2 o3 o4 g2 g3 g4
      clear O1 G1
      go_wp2_with fail
      go_roundw
      case rel => exact ⟨k + 1, by omega, by go_num, by rw [HNEXT.out]; go_num, O4.out, G4.out⟩
      case measure => simp [intOf]; omega
    · have hkn : k = n := by omega
      subst hkn
      have HOO := Lib.hid ho; have HG := Lib.hid hg; clear ho hg
      go_wp2_with fail
      go_ret
      exact ⟨rfl, by have h := HOO.out; rw [← HL.out, markToN_all] at h; rw [HL.out] at h; exact h, HG.out⟩
/-- laws.markNodeInfoS of a slice of the call's own, a nil one too. -/
theorem markNodes_any (ao : Option Addr) (n cap base : Nat) (t : List Nd) (q : Int) (w : World) (hl : t.length = n) (ho : OwnN 59 w base (.slice ao n cap) t) (hn : n ≤ 4194304) (hq0 : 1 ≤ q) (hq1 : q ≤ 16777216) :
    Calls Try.prog 24 #[.slice ao n cap, .int .i64 q] w fun e w' => e = .returned (.int .i64 (q + 4 * n)) ∧ OwnN 59 w' base (.slice ao n cap) (marksN q n) ∧ w.grownBy w' (Value.ownBlock (.slice ao n cap)) := by
  obtain ⟨ao', cap', e, -, -, -, hcase⟩ := ho.form
  rw [hl] at e
  cases e
  rcases hcase with hnil | ⟨g, rfl, -, -⟩
  · simp only [Value.slice.injEq] at hnil
    obtain ⟨rfl, rfl, rfl⟩ := hnil
    clear ho
    go_enter Try.func24, Try.ntmps24
    go_wp2
    refine wp_loop_rounds 1 ?_
    rw [rounds_succ]
    go_wp2
    go_ret
    exact ⟨ret_int (by simp), OwnN.nil_, World.grownBy.refl _ _⟩
  · exact markNodes_row g n cap base t q w hl ho hn hq0 hq1
set_option maxHeartbeats 2000000 in
set_option maxRecDepth 100000 in
set_option linter.unusedSimpArgs false in
/-- laws.heldNodeInfoS of marks. -/
theorem heldNodes_yes (ao : Option Addr) (n cap : Nat) (q : Int) (w : World) (hr : RdN w ao n (marksN q n)) (hn : n ≤ 4194304) (hq0 : 1 ≤ q) (hq1 : q ≤ 16777216) :
    Calls Try.prog 25 #[.slice ao n cap, .int .i64 q] w fun e w' => e = .returned (.int .i64 (q + 4 * n)) ∧ Below w.heap.size w w' := by
  have HR := Lib.hid hr; clear hr
  go_enter Try.func25, Try.ntmps25
  go_wp2_with fail
  go_loopw [1, 5] (fun v i wr => ∃ k : Nat, k ≤ n ∧ i = .int .i64 k ∧ v = .int .i64 (q + 4 * k) ∧ Below w.heap.size w wr) (fun _ i _ => n - (intOf i).toNat)
  case atStart => exact ⟨0, Nat.zero_le _, rfl, by simp, Below.refl _ _⟩
  case round =>
    obtain ⟨k, hk, rfl, rfl, hb⟩ := hrel
    by_cases hlt : k < n
    · obtain ⟨g, off, rfl, hg, hx⟩ := HR.out.at hlt
      rw [marksN_at hlt] at hx
      replace hx := hx.below hb hg
      obtain ⟨K, hK⟩ : ∃ K : Nat, K = (q + 4 * k).toNat := ⟨_, rfl⟩
      have hKi : q + 4 * (k : Int) = (K : Int) := by omega
      have hmk : mkN q k = ⟨(K : Int), mText (K + 1), (K : Int) + 1 + 1, ((K : Int) + 1 + 1 + 1) % 3 == 0⟩ := by
        unfold mkN
        rw [hKi]
        have e1 : ((K : Int) + 1).toNat = K + 1 := by omega
        have e2 : (K : Int) + 2 = (K : Int) + 1 + 1 := by omega
        have e3 : (K : Int) + 3 = (K : Int) + 1 + 1 + 1 := by omega
        rw [e1, e2, e3]
      rw [hmk] at hx
      rw [hKi]
      have hK0 : 0 < K := by omega
      have hK1 : K ≤ 33554432 := by omega
      have hnext : q + 4 * ((k + 1 : Nat) : Int) = (K : Int) + 4 := by omega
      have hcall := fun W => markText_any (K + 1) W (by omega) (by omega)
      obtain ⟨s, hs⟩ : ∃ s, s = mText (K + 1) := ⟨_, rfl⟩
      rw [← hs] at hx hcall
      rw [show ((K + 1 : Nat) : Int) = (K : Int) + 1 from by omega] at hcall
      have HCALL := Lib.hid hcall; clear hs hcall
      have HNEXT := Lib.hid hnext; have HB := Lib.hid hb; have HX := Lib.hid hx
      have HG := Lib.hid (Nat.lt_of_lt_of_le hg HB.out.size)
      clear hnext hb hK hKi hmk hg
      obtain ⟨h0, h1, h2, h3⟩ := hx
      have n0 : ((K : Int) != (K : Int)) = false := by simp
      go_upto_region 7 with fail
      clear h0 h1 h2 h3
      refine wp_region_held_drew (S := fun w' => w'.cell? ⟨g, off + k * 4 + 1, none⟩ = some (.string s)) (by kernel_rfl) (HX.out.c1) (fun hHeld => ?_)
      refine wpAnyH_take (i := 0) (v := ?_) rfl (by kernel_rfl) (by kernel_rfl) (by kernel_rfl) (fun _ _ _ h => h) (Or.inl ⟨by rfl, ?_⟩) (by assumption) ?_
      rotate_left
      · (intro w hSw; (try dsimp only at hSw); go_simp; (try with_reducible rfl))
      try simp only [List.getElem_toArray, List.getElem_cons_succ, List.getElem_cons_zero, Act.put, List.setIfInBounds_toArray, List.set_cons_zero, List.set_cons_succ]
      refine wpAnyH_take (i := 1) (v := ?_) rfl (by kernel_rfl) (by kernel_rfl) (by kernel_rfl) (fun _ _ _ h => h) (Or.inl ⟨by rfl, ?_⟩) (by assumption) ?_
      rotate_left
      · (intro w hSw; (try dsimp only at hSw); go_simp; (try with_reducible rfl))
      try simp only [List.getElem_toArray, List.getElem_cons_succ, List.getElem_cons_zero, Act.put, List.setIfInBounds_toArray, List.set_cons_zero, List.set_cons_succ]
      refine wpAnyH_take (i := 2) (v := ?_) rfl (by kernel_rfl) (by kernel_rfl) (by kernel_rfl) (fun _ _ _ h => h) (Or.inl ⟨by rfl, ?_⟩) (by assumption) ?_
      rotate_left
      · (intro w hSw; (try dsimp only at hSw); go_simp; (try with_reducible rfl))
      try simp only [List.getElem_toArray, List.getElem_cons_succ, List.getElem_cons_zero, Act.put, List.setIfInBounds_toArray, List.set_cons_zero, List.set_cons_succ]
      refine wpAnyH_take (i := 3) (v := ?_) rfl (by kernel_rfl) (by kernel_rfl) (by kernel_rfl) (fun _ _ _ h => h) (Or.inl ⟨by rfl, ?_⟩) (by assumption) ?_
      rotate_left
      · (intro w hSw; (try dsimp only at hSw); go_simp; (try with_reducible rfl))
      try simp only [List.getElem_toArray, List.getElem_cons_succ, List.getElem_cons_zero, Act.put, List.setIfInBounds_toArray, List.set_cons_zero, List.set_cons_succ]
      refine wpAnyH_take (i := 4) (v := ?_) rfl (by kernel_rfl) (by kernel_rfl) (by kernel_rfl) (fun _ _ _ h => h) (Or.inl ⟨by rfl, ?_⟩) (by assumption) ?_
      rotate_left
      · (intro w hSw; (try dsimp only at hSw); go_simp; (try with_reducible rfl))
      try simp only [List.getElem_toArray, List.getElem_cons_succ, List.getElem_cons_zero, Act.put, List.setIfInBounds_toArray, List.set_cons_zero, List.set_cons_succ]
      refine wpAnyH_take (i := 5) (v := ?_) rfl (by kernel_rfl) (by kernel_rfl) (by kernel_rfl) (fun _ _ _ h => h) (Or.inl ⟨by rfl, ?_⟩) (by assumption) ?_
      rotate_left
      · (intro w hSw; (try dsimp only at hSw); go_simp; (try with_reducible rfl))
      try simp only [List.getElem_toArray, List.getElem_cons_succ, List.getElem_cons_zero, Act.put, List.setIfInBounds_toArray, List.set_cons_zero, List.set_cons_succ]
      refine wpAnyH_ready (rs := [6]) (by kernel_rfl) (by simp) (AllReadyH.cons rfl (fun K hK => ?_) AllReadyH.nil)
      go_simp
      refine (HCALL.out _).mono ?_
      rintro e w2 ⟨rfl, b2⟩
      replace b2 := below_two (Below.drew (Below.refl wr.heap.size wr)) b2
      have HX2 := Lib.hid (HX.out.below b2 HG.out)
      have HB2 := Lib.hid (below_two HB.out b2)
      clear b2
      go_wp2_with fail
      refine hK.out _ _ ?_ (fun hHeld => ?_)
      · exact HX2.out.c1
      clear hK K
      try simp only [List.getElem_toArray, List.getElem_cons_succ, List.getElem_cons_zero, Act.put, List.setIfInBounds_toArray, List.set_cons_zero, List.set_cons_succ]
      refine wpAnyH_take (i := 7) (v := ?_) rfl (by kernel_rfl) (by kernel_rfl) (by kernel_rfl) (fun _ _ _ h => h) (Or.inl ⟨by rfl, ?_⟩) (by assumption) ?_
      rotate_left
      · (intro w hSw; (try dsimp only at hSw); go_simp; (try with_reducible rfl))
      try simp only [List.getElem_toArray, List.getElem_cons_succ, List.getElem_cons_zero, Act.put, List.setIfInBounds_toArray, List.set_cons_zero, List.set_cons_succ]
      refine wpAnyH_done (by kernel_rfl) ?_ _
      obtain ⟨h0, h1, h2, h3⟩ := HX2.out
      go_wp2_with fail
      go_roundw
      case rel => exact ⟨k + 1, by omega, by go_num, by rw [HNEXT.out]; go_num, HB2.out⟩
      case measure => simp [intOf]; omega
    · have hkn : k = n := by omega
      subst hkn
      have HB := Lib.hid hb; clear hb
      go_wp2_with fail
      go_ret
      exact ⟨rfl, HB.out⟩
end Go.Proofs.Ytpedlofckbplmaa
