/-
  Chapter 16: the table of bookings, by the model.
-/
import Derived.Test.YtbbodgeoenjdkaaPlS4
namespace Go.Proofs.Ytbbodgeoenjdkaa
open Go.RowKit

set_option maxHeartbeats 4000000 in
set_option maxRecDepth 100000 in
set_option linter.unusedSimpArgs false in
/-- spec.l16Table. -/
theorem l16Table_any (ao : Option Addr) (n cap : Nat) (t : List Dm) (R S : Nat) (bo : Option Addr) (m cap2 : Nat) (bs : List Bk) (w : World) (hr : RdDm w ao n t) (hrb : RdBk w bo m bs) (hn : n ≤ 1048576) (hd : ∀ i, i < t.length → isPow (dmOf t i).every = true) (hR0 : 0 < R) (hR : R ≤ 8) (hS0 : 0 < S) (hS : S ≤ 16) :
    Calls Try.prog 61 #[.slice ao n cap, .int .i64 (R : Int), .int .i64 (S : Int), .slice bo m cap2] w fun e w' =>
      (∃ U v, plTab tab0 R S 0 t bs = some U ∧ e = .returned (.tuple #[v, .bool true]) ∧ TbAt w' w.heap.size w'.heap.size v R S U ∧ Below w.heap.size w w')
      ∨ (plTab tab0 R S 0 t bs = none ∧ (∃ v, e = .returned (.tuple #[v, .bool false])) ∧ Below w.heap.size w w') := by
  have HL := Lib.hid hr.len
  have HR := Lib.hid hr; clear hr
  have HLb := Lib.hid hrb.len
  have HRb := Lib.hid hrb; clear hrb
  have HFR := Lib.hid (l16Free_any R S w hR hS)
  have HDD := Lib.hid hd; clear hd
  go_enter Try.func61, Try.ntmps61
  go_wp2_with fail
  refine HFR.out.mono ?_
  rintro e w1 ⟨tv, rfl, tb1, b1⟩
  have HB1 := Lib.hid b1
  have hlo := HB1.out.size
  have HTB1 := Lib.hid tb1
  obtain ⟨ta, tc, rfl, -, -⟩ := tb1.get
  clear tb1 b1
  generalize hhi : w1.heap.size = hi at HTB1 hlo ⊢
  go_wp2
  go_loopw [11] (fun i wr => ∃ (k : Nat) (U : Tab), i = .int .i64 (k : Int) ∧ k ≤ n ∧ k ≤ m ∧ Hid (tabOk U) ∧ Hid (TbAt wr w.heap.size hi (.slice ta R tc) R S U) ∧ Hid (Kr w1 wr w.heap.size hi) ∧ Hid (plTab tab0 R S 0 t bs = plTab U R S k (t.drop k) (bs.drop k))) (fun i _ => n - (intOf i).toNat)
  case atStart => exact ⟨0, tab0, rfl, Nat.zero_le _, Nat.zero_le _, tabOk_zero, HTB1.out, Kr.refl _ _ _, rfl⟩
  case round =>
    clear HTB1
    obtain ⟨k, U, rfl, hk, hkm, HU, HT, HK, HE⟩ := hrel
    have HBW := Lib.hid (HB1.out.trans (HK.out.below (by omega)))
    have hks := HK.out.size
    by_cases hlt : k < n ∧ k < m
    · obtain ⟨hln, hlm⟩ := hlt
      have hkt : k < t.length := by rw [HL.out]; exact hln
      have hkb : k < bs.length := by rw [HLb.out]; exact hlm
      obtain ⟨g, off, rfl, hg, hx⟩ := HR.out.at hln
      obtain ⟨g2, off2, rfl, hg2, hy⟩ := HRb.out.at hlm
      have HX := Lib.hid (fun W (hW : Below w.heap.size w W) => (hx.below hW hg).all)
      have HY := Lib.hid (fun W (hW : Below w.heap.size w W) => (hy.below hW hg2).all)
      have HST := Lib.hid (plTab_step (T := U) (R := R) (S := S) hkt hkb)
      have hpw := HDD.out k hkt
      have HTN := Lib.hid (tabOk_put HU.out R (dmOf t k) (bkOf bs k) k)
      clear hx hy
      obtain ⟨x, hxe⟩ : ∃ x, x = dmOf t k := ⟨_, rfl⟩
      rw [← hxe] at HX HST hpw HTN
      clear hxe
      obtain ⟨b, hbe⟩ : ∃ b, b = bkOf bs k := ⟨_, rfl⟩
      rw [← hbe] at HY HST HTN
      clear hbe
      have HPW := Lib.hid hpw; clear hpw
      go_upto_region 5 with fail
      have HDb := Lib.hid (show Below wr.heap.size wr wr.drew from Below.drew (Below.refl _ _))
      have HT4 := Lib.hid (HT.out.below HDb.out)
      have HK4 := Lib.hid (HK.out.trans (Kr.of_below HDb.out))
      have HB4 := Lib.hid (HB1.out.trans (HK4.out.below (by omega)))
      have HH4 := Lib.hid (show _ ∧ _ from ⟨HX.out _ HB4.out, HY.out _ HB4.out⟩)
      refine wp_region_held_drew (S := fun w' => (w'.cell? ⟨g, off + k * 3, none⟩ = some (Value.int .i64 x.node) ∧ w'.cell? ⟨g, off + k * 3 + 1, none⟩ = some (Value.int .i64 x.every) ∧ w'.cell? ⟨g, off + k * 3 + 2, none⟩ = some (Value.int .i64 x.size)) ∧ (w'.cell? ⟨g2, off2 + k * 2, none⟩ = some (Value.int .i64 b.slot) ∧ w'.cell? ⟨g2, off2 + k * 2 + 1, none⟩ = some (Value.int .i64 b.phase))) (by kernel_rfl) (HH4.out) (fun hHeld => ?_)
      generalize wr.drew = w5 at HDb HT4 HK4 HB4 HH4 hHeld ⊢
      obtain ⟨a5, c5, e9, -, htab⟩ := HT4.out.get
      cases e9
      have HFI := Lib.hid (l16Fits_any ta tc R S U x b w5 htab HU.out HPW.out hR0 hR hS0 hS)
      clear htab
      unfold dmVal bkVal at HFI
      refine wpAnyH_take (i := 0) (v := ?_) rfl (by kernel_rfl) (by kernel_rfl) (by kernel_rfl) (fun _ _ _ h => h) (Or.inl ⟨by rfl, ?_⟩) (by assumption) ?_
      rotate_left
      · (intro w hSw; (try dsimp only at hSw); go_simp; (try with_reducible rfl))
      try simp only [List.getElem_toArray, List.getElem_cons_succ, List.getElem_cons_zero, Act.put, List.setIfInBounds_toArray, List.set_cons_zero, List.set_cons_succ]
      refine wpAnyH_take (i := 1) (v := ?_) rfl (by kernel_rfl) (by kernel_rfl) (by kernel_rfl) (fun _ _ _ h => h) (Or.inl ⟨by rfl, ?_⟩) (by assumption) ?_
      rotate_left
      · (intro w hSw; (try dsimp only at hSw); go_simp; (try with_reducible rfl))
      try simp only [List.getElem_toArray, List.getElem_cons_succ, List.getElem_cons_zero, Act.put, List.setIfInBounds_toArray, List.set_cons_zero, List.set_cons_succ]
      refine wpAnyH_take (i := 2) (v := ?_) rfl (by kernel_rfl) (by kernel_rfl) (by kernel_rfl) (fun _ _ _ h => h) (Or.inl ⟨by rfl, ?_⟩) (by assumption) ?_
      rotate_left
      · (intro w hSw; (try dsimp only at hSw); go_simp; (try with_reducible rfl))
      try simp only [List.getElem_toArray, List.getElem_cons_succ, List.getElem_cons_zero, Act.put, List.setIfInBounds_toArray, List.set_cons_zero, List.set_cons_succ]
      refine wpAnyH_take (i := 3) (v := ?_) rfl (by kernel_rfl) (by kernel_rfl) (by kernel_rfl) (fun _ _ _ h => h) (Or.inl ⟨by rfl, ?_⟩) (by assumption) ?_
      rotate_left
      · (intro w hSw; (try dsimp only at hSw); go_simp; (try with_reducible rfl))
      try simp only [List.getElem_toArray, List.getElem_cons_succ, List.getElem_cons_zero, Act.put, List.setIfInBounds_toArray, List.set_cons_zero, List.set_cons_succ]
      refine wpAnyH_take (i := 4) (v := ?_) rfl (by kernel_rfl) (by kernel_rfl) (by kernel_rfl) (fun _ _ _ h => h) (Or.inl ⟨by rfl, ?_⟩) (by assumption) ?_
      rotate_left
      · (intro w hSw; (try dsimp only at hSw); go_simp; (try with_reducible rfl))
      try simp only [List.getElem_toArray, List.getElem_cons_succ, List.getElem_cons_zero, Act.put, List.setIfInBounds_toArray, List.set_cons_zero, List.set_cons_succ]
      refine wpAnyH_take (i := 5) (v := ?_) rfl (by kernel_rfl) (by kernel_rfl) (by kernel_rfl) (fun _ _ _ h => h) (Or.inl ⟨by rfl, ?_⟩) (by assumption) ?_
      rotate_left
      · (intro w hSw; (try dsimp only at hSw); go_simp; (try with_reducible rfl))
      try simp only [List.getElem_toArray, List.getElem_cons_succ, List.getElem_cons_zero, Act.put, List.setIfInBounds_toArray, List.set_cons_zero, List.set_cons_succ]
      refine wpAnyH_take (i := 6) (v := ?_) rfl (by kernel_rfl) (by kernel_rfl) (by kernel_rfl) (fun _ _ _ h => h) (Or.inl ⟨by rfl, ?_⟩) (by assumption) ?_
      rotate_left
      · (intro w hSw; (try dsimp only at hSw); go_simp; (try with_reducible rfl))
      try simp only [List.getElem_toArray, List.getElem_cons_succ, List.getElem_cons_zero, Act.put, List.setIfInBounds_toArray, List.set_cons_zero, List.set_cons_succ]
      refine wpAnyH_take (i := 7) (v := ?_) rfl (by kernel_rfl) (by kernel_rfl) (by kernel_rfl) (fun _ _ _ h => h) (Or.inl ⟨by rfl, ?_⟩) (by assumption) ?_
      rotate_left
      · (intro w hSw; (try dsimp only at hSw); go_simp; (try with_reducible rfl))
      try simp only [List.getElem_toArray, List.getElem_cons_succ, List.getElem_cons_zero, Act.put, List.setIfInBounds_toArray, List.set_cons_zero, List.set_cons_succ]
      refine wpAnyH_take (i := 8) (v := ?_) rfl (by kernel_rfl) (by kernel_rfl) (by kernel_rfl) (fun _ _ _ h => h) (Or.inl ⟨by rfl, ?_⟩) (by assumption) ?_
      rotate_left
      · (intro w hSw; (try dsimp only at hSw); go_simp; (try with_reducible rfl))
      try simp only [List.getElem_toArray, List.getElem_cons_succ, List.getElem_cons_zero, Act.put, List.setIfInBounds_toArray, List.set_cons_zero, List.set_cons_succ]
      refine wpAnyH_ready (rs := [9]) (by kernel_rfl) (by simp) (AllReadyH.cons rfl (fun K hK => ?_) AllReadyH.nil)
      go_simp
      refine HFI.out.mono ?_
      rintro e6 w6 ⟨rfl, b6⟩
      have HT6 := Lib.hid (HT4.out.below b6)
      have HK6 := Lib.hid (HK4.out.trans (Kr.of_below b6))
      have HB6 := Lib.hid (HB1.out.trans (HK6.out.below (by omega)))
      clear b6
      go_wp2_with fail
      refine hK.out _ _ ?_ (fun hHeld => ?_)
      · exact ⟨HX.out _ HB6.out, HY.out _ HB6.out⟩
      clear hK K
      try simp only [List.getElem_toArray, List.getElem_cons_succ, List.getElem_cons_zero, Act.put, List.setIfInBounds_toArray, List.set_cons_zero, List.set_cons_succ]
      refine wpAnyH_take (i := 10) (v := ?_) rfl (by kernel_rfl) (by kernel_rfl) (by kernel_rfl) (fun _ _ _ h => h) (Or.inl ⟨by rfl, ?_⟩) (by assumption) ?_
      rotate_left
      · (intro w hSw; (try dsimp only at hSw); go_simp; (try with_reducible rfl))
      try simp only [List.getElem_toArray, List.getElem_cons_succ, List.getElem_cons_zero, Act.put, List.setIfInBounds_toArray, List.set_cons_zero, List.set_cons_succ]
      refine wpAnyH_done (by kernel_rfl) ?_ _
      cases hf : plFits U R S x b
      · have HF := Lib.hid (show plTab tab0 R S 0 t bs = none from by rw [HE.out, HST.out, hf]; rfl)
        clear hf
        go_wp2
        go_ret2
        exact .inr ⟨HF.out, ⟨_, rfl⟩, HB6.out⟩
      · have HF := Lib.hid (show plTab tab0 R S 0 t bs = plTab (plPut U R x b (k : Int)) R S (k + 1) (t.drop (k + 1)) (bs.drop (k + 1)) from by rw [HE.out, HST.out, hf]; rfl)
        have HFT := Lib.hid hf
        clear hf
        go_upto_region 7 with fail
        have HD7 := Lib.hid (show Below w6.heap.size w6 w6.drew from Below.drew (Below.refl _ _))
        have HT7 := Lib.hid (HT6.out.below HD7.out)
        have HK7 := Lib.hid (HK6.out.trans (Kr.of_below HD7.out))
        have HB7 := Lib.hid (HB1.out.trans (HK7.out.below (by omega)))
        have HH7 := Lib.hid (show _ ∧ _ from ⟨HX.out _ HB7.out, HY.out _ HB7.out⟩)
        refine wp_region_held_drew (S := fun w' => (w'.cell? ⟨g, off + k * 3, none⟩ = some (Value.int .i64 x.node) ∧ w'.cell? ⟨g, off + k * 3 + 1, none⟩ = some (Value.int .i64 x.every) ∧ w'.cell? ⟨g, off + k * 3 + 2, none⟩ = some (Value.int .i64 x.size)) ∧ (w'.cell? ⟨g2, off2 + k * 2, none⟩ = some (Value.int .i64 b.slot) ∧ w'.cell? ⟨g2, off2 + k * 2 + 1, none⟩ = some (Value.int .i64 b.phase))) (by kernel_rfl) (HH7.out) (fun hHeld => ?_)
        generalize w6.drew = w7 at HD7 HT7 HK7 HB7 HH7 hHeld ⊢
        have hsz7 : hi ≤ w7.heap.size := by have := HK7.out.size; omega
        have HPU := Lib.hid (l16Put_any w.heap.size hi (.slice ta R tc) R S U x b k w7 HT7.out hsz7 HFT.out HPW.out hR)
        unfold dmVal bkVal at HPU
        refine wpAnyH_take (i := 0) (v := ?_) rfl (by kernel_rfl) (by kernel_rfl) (by kernel_rfl) (fun _ _ _ h => h) (Or.inl ⟨by rfl, ?_⟩) (by assumption) ?_
        rotate_left
        · (intro w hSw; (try dsimp only at hSw); go_simp; (try with_reducible rfl))
        try simp only [List.getElem_toArray, List.getElem_cons_succ, List.getElem_cons_zero, Act.put, List.setIfInBounds_toArray, List.set_cons_zero, List.set_cons_succ]
        refine wpAnyH_take (i := 1) (v := ?_) rfl (by kernel_rfl) (by kernel_rfl) (by kernel_rfl) (fun _ _ _ h => h) (Or.inl ⟨by rfl, ?_⟩) (by assumption) ?_
        rotate_left
        · (intro w hSw; (try dsimp only at hSw); go_simp; (try with_reducible rfl))
        try simp only [List.getElem_toArray, List.getElem_cons_succ, List.getElem_cons_zero, Act.put, List.setIfInBounds_toArray, List.set_cons_zero, List.set_cons_succ]
        refine wpAnyH_take (i := 2) (v := ?_) rfl (by kernel_rfl) (by kernel_rfl) (by kernel_rfl) (fun _ _ _ h => h) (Or.inl ⟨by rfl, ?_⟩) (by assumption) ?_
        rotate_left
        · (intro w hSw; (try dsimp only at hSw); go_simp; (try with_reducible rfl))
        try simp only [List.getElem_toArray, List.getElem_cons_succ, List.getElem_cons_zero, Act.put, List.setIfInBounds_toArray, List.set_cons_zero, List.set_cons_succ]
        refine wpAnyH_take (i := 3) (v := ?_) rfl (by kernel_rfl) (by kernel_rfl) (by kernel_rfl) (fun _ _ _ h => h) (Or.inl ⟨by rfl, ?_⟩) (by assumption) ?_
        rotate_left
        · (intro w hSw; (try dsimp only at hSw); go_simp; (try with_reducible rfl))
        try simp only [List.getElem_toArray, List.getElem_cons_succ, List.getElem_cons_zero, Act.put, List.setIfInBounds_toArray, List.set_cons_zero, List.set_cons_succ]
        refine wpAnyH_take (i := 4) (v := ?_) rfl (by kernel_rfl) (by kernel_rfl) (by kernel_rfl) (fun _ _ _ h => h) (Or.inl ⟨by rfl, ?_⟩) (by assumption) ?_
        rotate_left
        · (intro w hSw; (try dsimp only at hSw); go_simp; (try with_reducible rfl))
        try simp only [List.getElem_toArray, List.getElem_cons_succ, List.getElem_cons_zero, Act.put, List.setIfInBounds_toArray, List.set_cons_zero, List.set_cons_succ]
        refine wpAnyH_take (i := 5) (v := ?_) rfl (by kernel_rfl) (by kernel_rfl) (by kernel_rfl) (fun _ _ _ h => h) (Or.inl ⟨by rfl, ?_⟩) (by assumption) ?_
        rotate_left
        · (intro w hSw; (try dsimp only at hSw); go_simp; (try with_reducible rfl))
        try simp only [List.getElem_toArray, List.getElem_cons_succ, List.getElem_cons_zero, Act.put, List.setIfInBounds_toArray, List.set_cons_zero, List.set_cons_succ]
        refine wpAnyH_take (i := 6) (v := ?_) rfl (by kernel_rfl) (by kernel_rfl) (by kernel_rfl) (fun _ _ _ h => h) (Or.inl ⟨by rfl, ?_⟩) (by assumption) ?_
        rotate_left
        · (intro w hSw; (try dsimp only at hSw); go_simp; (try with_reducible rfl))
        try simp only [List.getElem_toArray, List.getElem_cons_succ, List.getElem_cons_zero, Act.put, List.setIfInBounds_toArray, List.set_cons_zero, List.set_cons_succ]
        refine wpAnyH_take (i := 7) (v := ?_) rfl (by kernel_rfl) (by kernel_rfl) (by kernel_rfl) (fun _ _ _ h => h) (Or.inl ⟨by rfl, ?_⟩) (by assumption) ?_
        rotate_left
        · (intro w hSw; (try dsimp only at hSw); go_simp; (try with_reducible rfl))
        try simp only [List.getElem_toArray, List.getElem_cons_succ, List.getElem_cons_zero, Act.put, List.setIfInBounds_toArray, List.set_cons_zero, List.set_cons_succ]
        refine wpAnyH_take (i := 8) (v := ?_) rfl (by kernel_rfl) (by kernel_rfl) (by kernel_rfl) (fun _ _ _ h => h) (Or.inl ⟨by rfl, ?_⟩) (by assumption) ?_
        rotate_left
        · (intro w hSw; (try dsimp only at hSw); go_simp; (try with_reducible rfl))
        try simp only [List.getElem_toArray, List.getElem_cons_succ, List.getElem_cons_zero, Act.put, List.setIfInBounds_toArray, List.set_cons_zero, List.set_cons_succ]
        refine wpAnyH_take (i := 9) (v := ?_) rfl (by kernel_rfl) (by kernel_rfl) (by kernel_rfl) (fun _ _ _ h => h) (Or.inl ⟨by rfl, ?_⟩) (by assumption) ?_
        rotate_left
        · (intro w hSw; (try dsimp only at hSw); go_simp; (try with_reducible rfl))
        try simp only [List.getElem_toArray, List.getElem_cons_succ, List.getElem_cons_zero, Act.put, List.setIfInBounds_toArray, List.set_cons_zero, List.set_cons_succ]
        refine wpAnyH_ready (rs := [10]) (by kernel_rfl) (by simp) (AllReadyH.cons rfl (fun K hK => ?_) AllReadyH.nil)
        go_simp
        refine HPU.out.mono ?_
        rintro e8 w8 ⟨rfl, tb8, kr8⟩
        have HT8 := Lib.hid tb8
        have HK8 := Lib.hid (HK7.out.trans kr8)
        have HB8 := Lib.hid (HB1.out.trans (HK8.out.below (by omega)))
        clear tb8 kr8
        go_wp2_with fail
        refine hK.out _ _ ?_ (fun hHeld => ?_)
        · exact ⟨HX.out _ HB8.out, HY.out _ HB8.out⟩
        clear hK K
        try simp only [List.getElem_toArray, List.getElem_cons_succ, List.getElem_cons_zero, Act.put, List.setIfInBounds_toArray, List.set_cons_zero, List.set_cons_succ]
        refine wpAnyH_done (by kernel_rfl) ?_ _
        go_wp2
        go_roundw
        case rel => exact ⟨k + 1, _, by go_num, by omega, by omega, HTN.out, HT8.out, HK8.out, HF.out⟩
        case measure => simp [intOf]; omega
    · have HTF := Lib.hid (show TbAt wr w.heap.size wr.heap.size (.slice ta R tc) R S U from by
        obtain ⟨rs, a1, a2, a3, a4⟩ := HT.out
        exact ⟨rs, a1, a2, fun c hc q hq => by have := a3 c hc q hq; omega, fun q hq => by have := a4 q hq; omega⟩)
      by_cases hkn : k < n
      · have hkm2 : ¬ k < m := fun h => hlt ⟨hkn, h⟩
        have HF := Lib.hid (show plTab tab0 R S 0 t bs = none from by rw [HE.out, plTab_less (by rw [HL.out]; exact hkn) (by rw [HLb.out]; omega)])
        have hne : ((n : Int) == (m : Int)) = false := by simp; omega
        clear hlt
        go_wp2
        go_ret2
        exact .inr ⟨HF.out, ⟨_, rfl⟩, HBW.out⟩
      · by_cases hnm : n = m
        · have HF := Lib.hid (show plTab tab0 R S 0 t bs = some U from by rw [HE.out, plTab_done (by rw [HL.out]; omega) (by rw [HLb.out]; omega)])
          subst hnm
          clear hlt
          go_wp2
          go_ret2
          exact .inl ⟨U, _, HF.out, rfl, HTF.out, HBW.out⟩
        · have HF := Lib.hid (show plTab tab0 R S 0 t bs = none from by rw [HE.out, plTab_more (by rw [HL.out]; omega) (by rw [HLb.out]; omega)])
          have hne : ((n : Int) == (m : Int)) = false := by simp; omega
          clear hlt hnm
          go_wp2
          go_ret2
          exact .inr ⟨HF.out, ⟨_, rfl⟩, HBW.out⟩
end Go.Proofs.Ytbbodgeoenjdkaa
