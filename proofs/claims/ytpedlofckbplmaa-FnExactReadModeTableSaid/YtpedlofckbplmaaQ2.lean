/-
  Chapter 11: the model's IsModeTable; CycleSlots; MayChange.
-/
import Derived.Test.YtpedlofckbplmaaQ1
import Derived.Test.YtpedlofckbplmaaIn
import Derived.Test.YtpedlofckbplmaaFiv
namespace Go.Proofs.Ytpedlofckbplmaa
open Go.RowKit

set_option maxHeartbeats 2000000 in
set_option maxRecDepth 100000 in
theorem isModesS_any (ao : Option Addr) (n cap : Nat) (cs : List Mc) (w : World) (hr : RdM w ao n cs) (hn : n ≤ 1048576) (hs : smallM cs) :
    Calls Try.prog 34 #[.slice ao n cap] w fun e w' => e = .returned (.bool (isModes (mds cs))) ∧ Below w.heap.size w w' := by
  have hl := (mds_len cs).trans hr.len
  have HIN := Lib.hid (fun W => l01In_any (n : Int) 1 16 W)
  rcases hrg : inRange 1 16 (n : Int) with _ | _
  · have hF : isModes (mds cs) = false := by
      rw [Bool.eq_false_iff]; intro h
      have := (isModes_iff.1 h).1
      rw [hl] at this
      rw [inR11.2 ⟨by omega, by omega⟩] at hrg
      cases hrg
    have HF := Lib.hid hF; clear hr hl hs hF
    go_enter Try.func34, Try.ntmps34
    go_wp2_with fail
    refine (HIN.out _).mono ?_
    rintro e w1 ⟨rfl, rfl⟩
    rw [hrg]
    go_wp2_with fail
    go_ret
    rw [HF.out]
    exact ⟨rfl, Below.refl _ _⟩
  have HL := Lib.hid hl
  have HR := Lib.hid hr
  have HS := Lib.hid hs
  have HN := Lib.hid (show 1 ≤ n ∧ n ≤ 16 by have := inR11.1 hrg; omega)
  clear hl hr hs
  go_enter Try.func34, Try.ntmps34
  go_wp2_with fail
  refine (HIN.out _).mono ?_
  rintro e w1 ⟨rfl, rfl⟩
  rw [hrg]
  clear hrg HIN
  go_wp2_with fail
  go_loopw [3] (fun i wr => ∃ k : Nat, k ≤ n ∧ i = .int .i64 k ∧ Below w.heap.size w wr ∧ Hid (∀ i, i < k → isMd (mds cs).length i (mdOf (mds cs) i) = true)) (fun i _ => n - (intOf i).toNat)
  case atStart => exact ⟨0, Nat.zero_le _, rfl, Below.refl _ _, fun i h => absurd h (by omega)⟩
  case round =>
    obtain ⟨k, hk, rfl, hb, hall⟩ := hrel
    by_cases hlt : k < n
    · obtain ⟨g, off, rfl, hg, hx, hrd⟩ := HR.out.at hlt
      replace hx := hx.below hb hg
      replace hrd := hrd.below hb
      have hkt : k < cs.length := by rw [HR.out.len]; exact hlt
      have hsm := HS.out _ (mcOf_mem hkt)
      have hno : isMd n k (mcOf cs k).md = false → isModes (mds cs) = false := fun h => modes_no (k := k) (by rw [mds_len]; exact hkt) (by rw [HL.out, mdOf_mds]; exact h)
      have hyes : isMd n k (mcOf cs k).md = true → ∀ i, i < k + 1 → isMd (mds cs).length i (mdOf (mds cs) i) = true := fun h => okM_next hall.out (by rw [HL.out, mdOf_mds]; exact h)
      generalize mcOf cs k = c at hx hrd hsm hno hyes
      have HNO := Lib.hid hno; have HYES := Lib.hid hyes; have HB0 := Lib.hid hb
      clear hno hyes hb hkt hall
      obtain ⟨⟨r, s, xs⟩, xo, xc⟩ := c
      obtain ⟨h0, h1, h2⟩ := hx
      have hrr := hrd.rd
      dsimp only at h0 h1 h2 hrr hsm
      have hb1 := (Below.refl wr.heap.size wr).alloc (Nat.le_refl _) (.cells #[.int .i64 r, .int .i64 s, .slice xo xs.length xc] 78)
      have HB1 := Lib.hid (below_two HB0.out hb1)
      have HRR := Lib.hid (hrr.below hb1)
      have HIDX := Lib.hid (l01Rises_any xo xs.length xc xs n _ (hrr.below hb1) (by omega) (by omega) (by omega))
      have HMD := Lib.hid (show isMd n k ⟨r, s, xs⟩ = (inRange 1 8 r && (inRange 1 16 s && (rises (n : Int) xs && !decide ((k : Int) ∈ xs)))) from rfl)
      have hat := McAt.new (T := 78) (c := ⟨⟨r, s, xs⟩, xo, xc⟩) wr
      have HAT := Lib.hid hat
      clear hb1 hrd hrr HB0 hat
      have HSM := Lib.hid hsm; clear hsm
      rcases hc1 : inRange 1 8 r with _ | _
      · have HF := Lib.hid (HNO.out (by rw [HMD.out, hc1]; rfl))
        go_wp2_with fail
        refine (l01In_any r 1 8 _).mono ?_
        rintro e w2 ⟨rfl, rfl⟩
        rw [hc1]
        clear h0 h1 h2
        go_wp2_with fail
        go_ret
        rw [HF.out]
        exact ⟨rfl, HB1.out⟩
      rcases hc2 : inRange 1 16 s with _ | _
      · have HF := Lib.hid (HNO.out (by rw [HMD.out, hc1, hc2]; rfl))
        go_wp2_with fail
        refine (l01In_any r 1 8 _).mono ?_
        rintro e w2 ⟨rfl, rfl⟩
        rw [hc1]
        clear h0 h1 h2
        go_wp2_with fail
        refine (l01In_any s 1 16 _).mono ?_
        rintro e w2 ⟨rfl, rfl⟩
        rw [hc2]
        go_wp2_with fail
        go_ret
        rw [HF.out]
        exact ⟨rfl, HB1.out⟩
      rcases hri : rises (n : Int) xs with _ | _
      · have HF := Lib.hid (HNO.out (by rw [HMD.out, hc1, hc2, hri]; rfl))
        go_wp2_with fail
        refine (l01In_any r 1 8 _).mono ?_
        rintro e w2 ⟨rfl, rfl⟩
        rw [hc1]
        clear h0 h1 h2
        go_wp2_with fail
        refine (l01In_any s 1 16 _).mono ?_
        rintro e w2 ⟨rfl, rfl⟩
        rw [hc2]
        go_wp2_with fail
        refine HIDX.out.mono ?_
        rintro e w2 ⟨rfl, b2⟩
        rw [hri]
        have HB2 := Lib.hid (below_two HB1.out b2)
        go_wp2_with fail
        go_ret
        rw [HF.out]
        exact ⟨rfl, HB2.out⟩
      rcases hco : decide ((k : Int) ∈ xs) with _ | _
      · have HF := Lib.hid (HYES.out (by rw [HMD.out, hc1, hc2, hri, hco]; rfl))
        go_wp2_with fail
        refine (l01In_any r 1 8 _).mono ?_
        rintro e w2 ⟨rfl, rfl⟩
        rw [hc1]
        clear h0 h1 h2
        go_wp2_with fail
        refine (l01In_any s 1 16 _).mono ?_
        rintro e w2 ⟨rfl, rfl⟩
        rw [hc2]
        go_wp2_with fail
        refine HIDX.out.mono ?_
        rintro e w2 ⟨rfl, b2⟩
        rw [hri]
        obtain ⟨-, -, d2⟩ := (HAT.out.below b2 HAT.out.lt).in_
        have HB2 := Lib.hid (below_two HB1.out b2)
        have HR2 := Lib.hid (HRR.out.below b2)
        clear b2
        go_wp2_with fail
        refine (l01Has_any _ _ _ xs k _ HR2.out (by have := HSM.out; omega)).mono ?_
        rintro e w3 ⟨rfl, rfl⟩
        rw [hco]
        go_wp2_with fail
        go_roundw
        case rel => exact ⟨k + 1, by omega, by go_num, HB2.out, HF⟩
        case measure => simp [intOf]; omega
      · have HF := Lib.hid (HNO.out (by rw [HMD.out, hc1, hc2, hri, hco]; rfl))
        go_wp2_with fail
        refine (l01In_any r 1 8 _).mono ?_
        rintro e w2 ⟨rfl, rfl⟩
        rw [hc1]
        clear h0 h1 h2
        go_wp2_with fail
        refine (l01In_any s 1 16 _).mono ?_
        rintro e w2 ⟨rfl, rfl⟩
        rw [hc2]
        go_wp2_with fail
        refine HIDX.out.mono ?_
        rintro e w2 ⟨rfl, b2⟩
        rw [hri]
        obtain ⟨-, -, d2⟩ := (HAT.out.below b2 HAT.out.lt).in_
        have HB2 := Lib.hid (below_two HB1.out b2)
        have HR2 := Lib.hid (HRR.out.below b2)
        clear b2
        go_wp2_with fail
        refine (l01Has_any _ _ _ xs k _ HR2.out (by have := HSM.out; omega)).mono ?_
        rintro e w3 ⟨rfl, rfl⟩
        rw [hco]
        go_wp2_with fail
        go_ret
        rw [HF.out]
        exact ⟨rfl, HB2.out⟩
    · have hkn : k = n := by omega
      subst hkn
      have HF := Lib.hid (show isModes (mds cs) = true from isModes_iff.2 ⟨by rw [HL.out]; exact HN.out, by rw [HL.out]; rw [HL.out] at hall; exact hall.out⟩)
      have HB := Lib.hid hb; clear hb hall
      go_wp2_with fail
      go_ret
      rw [HF.out]
      exact ⟨rfl, HB.out⟩
end Go.Proofs.Ytpedlofckbplmaa
