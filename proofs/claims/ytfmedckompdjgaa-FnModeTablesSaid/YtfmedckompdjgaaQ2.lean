/-
  Chapter 11: the model's IsModeTable; CycleSlots; MayChange.
-/
import Derived.Test.YtfmedckompdjgaaQ1
import Derived.Test.YtfmedckompdjgaaIn
import Derived.Test.YtfmedckompdjgaaFiv
namespace Go.Proofs.Ytfmedckompdjgaa
open Go.RowKit

set_option maxHeartbeats 2000000 in
set_option maxRecDepth 100000 in
theorem isModesS_any (ao : Option Addr) (n cap : Nat) (cs : List Mc) (w : World) (hr : RdM w ao n cs) (hn : n ≤ 1048576) (hs : smallM cs) :
    Calls Try.prog 33 #[.slice ao n cap] w fun e w' => e = .returned (.bool (isModes (mds cs))) ∧ Below w.heap.size w w' := by
  have hl := (mds_len cs).trans hr.len
  have HIN := Lib.hid (fun W => l01In_any (n : Int) 1 16 W)
  rcases hrg : inRange 1 16 (n : Int) with _ | _
  · have hF : isModes (mds cs) = false := by
      rw [Bool.eq_false_iff]; intro h
      have := (isModes_iff.1 h).1
      rw [hl] at this
      rw [inR11.2 ⟨by omega, by omega⟩] at hrg
      cases hrg
    have HF := Lib.hid hF; clear hr hl hs hF
    go_enter Try.func33, Try.ntmps33
    go_wp2_with fail
    refine (HIN.out _).mono ?_
    rintro e w1 ⟨rfl, rfl⟩
    rw [hrg]
    go_wp2_with fail
    go_ret
    rw [HF.out]
    exact ⟨rfl, Below.refl _ _⟩
  have HL := Lib.hid hl
  have HR := Lib.hid hr
  have HS := Lib.hid hs
  have HN := Lib.hid (show 1 ≤ n ∧ n ≤ 16 by have := inR11.1 hrg; omega)
  clear hl hr hs
  go_enter Try.func33, Try.ntmps33
  go_wp2_with fail
  refine (HIN.out _).mono ?_
  rintro e w1 ⟨rfl, rfl⟩
  rw [hrg]
  clear hrg HIN
  go_wp2_with fail
  go_loopw [3] (fun i wr => ∃ k : Nat, k ≤ n ∧ i = .int .i64 k ∧ Below w.heap.size w wr ∧ Hid (∀ i, i < k → isMd (mds cs).length i (mdOf (mds cs) i) = true)) (fun i _ => n - (intOf i).toNat)
  case atStart => exact ⟨0, Nat.zero_le _, rfl, Below.refl _ _, fun i h => absurd h (by omega)⟩
  case round =>
    obtain ⟨k, hk, rfl, hb, hall⟩ := hrel
    by_cases hlt : k < n
    · obtain ⟨g, off, rfl, hg, hx, hrd⟩ := HR.out.at hlt
      replace hx := hx.below hb hg
      replace hrd := hrd.below hb
      have hkt : k < cs.length := by rw [HR.out.len]; exact hlt
      have hsm := HS.out _ (mcOf_mem hkt)
      have hno : isMd n k (mcOf cs k).md = false → isModes (mds cs) = false := fun h => modes_no (k := k) (by rw [mds_len]; exact hkt) (by rw [HL.out, mdOf_mds]; exact h)
      have hyes : isMd n k (mcOf cs k).md = true → ∀ i, i < k + 1 → isMd (mds cs).length i (mdOf (mds cs) i) = true := fun h => okM_next hall.out (by rw [HL.out, mdOf_mds]; exact h)
      generalize mcOf cs k = c at hx hrd hsm hno hyes
      have HNO := Lib.hid hno; have HYES := Lib.hid hyes; have HB0 := Lib.hid hb
      clear hno hyes hb hkt hall
      obtain ⟨⟨r, s, xs⟩, xo, xc⟩ := c
      obtain ⟨h0, h1, h2⟩ := hx
      have hrr := hrd.rd
      dsimp only at h0 h1 h2 hrr hsm
      have hb1 := (Below.refl wr.heap.size wr).alloc (Nat.le_refl _) (.cells #[.int .i64 r, .int .i64 s, .slice xo xs.length xc] 81)
      have HB1 := Lib.hid (below_two HB0.out hb1)
      have HRR := Lib.hid (hrr.below hb1)
      have HIDX := Lib.hid (l01Rises_any xo xs.length xc xs n _ (hrr.below hb1) (by omega) (by omega) (by omega))
      have HMD := Lib.hid (show isMd n k ⟨r, s, xs⟩ = (inRange 1 8 r && (inRange 1 16 s && (rises (n : Int) xs && !decide ((k : Int) ∈ xs)))) from rfl)
      have hat := McAt.new (T := 81) (c := ⟨⟨r, s, xs⟩, xo, xc⟩) wr
      have HAT := Lib.hid hat
      clear hb1 hrd hrr HB0 hat
      have HSM := Lib.hid hsm; clear hsm
      rcases hc1 : inRange 1 8 r with _ | _
      · have HF := Lib.hid (HNO.out (by rw [HMD.out, hc1]; rfl))
        go_wp2_with fail
        refine (l01In_any r 1 8 _).mono ?_
        rintro e w2 ⟨rfl, rfl⟩
        rw [hc1]
        clear h0 h1 h2
        go_wp2_with fail
        go_ret
        rw [HF.out]
        exact ⟨rfl, HB1.out⟩
      rcases hc2 : inRange 1 16 s with _ | _
      · have HF := Lib.hid (HNO.out (by rw [HMD.out, hc1, hc2]; rfl))
        go_wp2_with fail
        refine (l01In_any r 1 8 _).mono ?_
        rintro e w2 ⟨rfl, rfl⟩
        rw [hc1]
        clear h0 h1 h2
        go_wp2_with fail
        refine (l01In_any s 1 16 _).mono ?_
        rintro e w2 ⟨rfl, rfl⟩
        rw [hc2]
        go_wp2_with fail
        go_ret
        rw [HF.out]
        exact ⟨rfl, HB1.out⟩
      rcases hri : rises (n : Int) xs with _ | _
      · have HF := Lib.hid (HNO.out (by rw [HMD.out, hc1, hc2, hri]; rfl))
        go_wp2_with fail
        refine (l01In_any r 1 8 _).mono ?_
        rintro e w2 ⟨rfl, rfl⟩
        rw [hc1]
        clear h0 h1 h2
        go_wp2_with fail
        refine (l01In_any s 1 16 _).mono ?_
        rintro e w2 ⟨rfl, rfl⟩
        rw [hc2]
        go_wp2_with fail
        refine HIDX.out.mono ?_
        rintro e w2 ⟨rfl, b2⟩
        rw [hri]
        have HB2 := Lib.hid (below_two HB1.out b2)
        go_wp2_with fail
        go_ret
        rw [HF.out]
        exact ⟨rfl, HB2.out⟩
      rcases hco : decide ((k : Int) ∈ xs) with _ | _
      · have HF := Lib.hid (HYES.out (by rw [HMD.out, hc1, hc2, hri, hco]; rfl))
        go_wp2_with fail
        refine (l01In_any r 1 8 _).mono ?_
        rintro e w2 ⟨rfl, rfl⟩
        rw [hc1]
        clear h0 h1 h2
        go_wp2_with fail
        refine (l01In_any s 1 16 _).mono ?_
        rintro e w2 ⟨rfl, rfl⟩
        rw [hc2]
        go_wp2_with fail
        refine HIDX.out.mono ?_
        rintro e w2 ⟨rfl, b2⟩
        rw [hri]
        obtain ⟨-, -, d2⟩ := (HAT.out.below b2 HAT.out.lt).in_
        have HB2 := Lib.hid (below_two HB1.out b2)
        have HR2 := Lib.hid (HRR.out.below b2)
        clear b2
        go_wp2_with fail
        refine (l01Has_any _ _ _ xs k _ HR2.out (by have := HSM.out; omega)).mono ?_
        rintro e w3 ⟨rfl, rfl⟩
        rw [hco]
        go_wp2_with fail
        go_roundw
        case rel => exact ⟨k + 1, by omega, by go_num, HB2.out, HF⟩
        case measure => simp [intOf]; omega
      · have HF := Lib.hid (HNO.out (by rw [HMD.out, hc1, hc2, hri, hco]; rfl))
        go_wp2_with fail
        refine (l01In_any r 1 8 _).mono ?_
        rintro e w2 ⟨rfl, rfl⟩
        rw [hc1]
        clear h0 h1 h2
        go_wp2_with fail
        refine (l01In_any s 1 16 _).mono ?_
        rintro e w2 ⟨rfl, rfl⟩
        rw [hc2]
        go_wp2_with fail
        refine HIDX.out.mono ?_
        rintro e w2 ⟨rfl, b2⟩
        rw [hri]
        obtain ⟨-, -, d2⟩ := (HAT.out.below b2 HAT.out.lt).in_
        have HB2 := Lib.hid (below_two HB1.out b2)
        have HR2 := Lib.hid (HRR.out.below b2)
        clear b2
        go_wp2_with fail
        refine (l01Has_any _ _ _ xs k _ HR2.out (by have := HSM.out; omega)).mono ?_
        rintro e w3 ⟨rfl, rfl⟩
        rw [hco]
        go_wp2_with fail
        go_ret
        rw [HF.out]
        exact ⟨rfl, HB2.out⟩
    · have hkn : k = n := by omega
      subst hkn
      have HF := Lib.hid (show isModes (mds cs) = true from isModes_iff.2 ⟨by rw [HL.out]; exact HN.out, by rw [HL.out]; rw [HL.out] at hall; exact hall.out⟩)
      have HB := Lib.hid hb; clear hb hall
      go_wp2_with fail
      go_ret
      rw [HF.out]
      exact ⟨rfl, HB.out⟩
theorem l11Mode_any (ao : Option Addr) (n cap : Nat) (m : Int) (t : List Md) (w : World) (hl : t.length = n) (hn : n ≤ 1048576) :
    Calls Try.prog 86 #[.slice ao n cap, .int .i64 m] w fun e w' => e = .returned (.bool (isMode t m)) ∧ w = w' := by
  have HE := Lib.hid (show inRange 0 ((n : Int) - 1) m = isMode t m from by unfold isMode; rw [hl])
  have hw : IntKind.i64.wrap ((n : Int) - 1) = (n : Int) - 1 := by rw [IntKind.wrap_i64]; omega
  go_enter Try.func86, Try.ntmps86
  go_wp2_with fail
  refine (l01In_any m 0 ((n : Int) - 1) _).mono ?_
  rintro e w1 ⟨rfl, rfl⟩
  rw [HE.out]
  go_wp2_with fail
  go_ret
  exact ⟨rfl, rfl⟩
set_option maxHeartbeats 1000000 in
set_option maxRecDepth 100000 in
theorem cycleSlotsS_any (ao : Option Addr) (n cap : Nat) (cs : List Mc) (m : Int) (w : World) (hr : RdM w ao n cs) (hn : n ≤ 1048576) (hs : smallM cs) :
    Calls Try.prog 54 #[.slice ao n cap, .int .i64 m] w fun e w' => e = .returned (.tuple #[.int .i64 (cycleSlots (mds cs) m).1, .int .i64 (cycleSlots (mds cs) m).2]) ∧ Below w.heap.size w w' := by
  have HC := Lib.hid (isModesS_any ao n cap cs _ hr hn hs)
  have HLM := Lib.hid (fun W => l11Mode_any ao n cap m (mds cs) W ((mds_len cs).trans hr.len) hn)
  have hlen := (mds_len cs).trans hr.len
  have HR := Lib.hid hr; clear hr hs
  rcases hi : isModes (mds cs) with _ | _
  · have HF := Lib.hid (show cycleSlots (mds cs) m = (0, 1) from by unfold cycleSlots; rw [if_pos hi])
    rw [HF.out]
    go_enter Try.func54, Try.ntmps54
    go_wp2_with fail
    refine HC.out.mono ?_
    rintro e w1 ⟨rfl, b1⟩
    rw [hi]
    go_wp2_with fail
    go_ret2
    exact ⟨rfl, b1⟩
  rcases hm : isMode (mds cs) m with _ | _
  · have HF := Lib.hid (show cycleSlots (mds cs) m = (0, 2) from by unfold cycleSlots; rw [if_neg (by rw [hi]; simp), if_pos hm])
    rw [HF.out]
    go_enter Try.func54, Try.ntmps54
    go_wp2_with fail
    refine HC.out.mono ?_
    rintro e w1 ⟨rfl, b1⟩
    rw [hi]
    go_wp2_with fail
    refine (HLM.out _).mono ?_
    rintro e w2 ⟨rfl, rfl⟩
    rw [hm]
    go_wp2_with fail
    go_ret2
    exact ⟨rfl, b1⟩
  obtain ⟨hm0, hm1⟩ := isMode_iff.1 hm
  obtain ⟨k, rfl⟩ : ∃ k : Nat, m = k := ⟨m.toNat, by omega⟩
  have hkn : k < n := by omega
  have HF := Lib.hid (show cycleSlots (mds cs) k = ((mcOf cs k).md.rounds * (mcOf cs k).md.slots, 0) from by unfold cycleSlots; rw [if_neg (by rw [hi]; simp), if_neg (by rw [hm]; simp), Int.toNat_natCast, mdOf_mds])
  have hmd := modes_md hi (mdOf_mem (t := mds cs) (i := k) (by omega))
  rw [mdOf_mds] at hmd
  have hw : IntKind.i64.wrap ((mcOf cs k).md.rounds * (mcOf cs k).md.slots) = (mcOf cs k).md.rounds * (mcOf cs k).md.slots := by
    obtain ⟨⟨h1, h2⟩, ⟨h3, h4⟩, -⟩ := hmd
    have h5 : 0 ≤ (mcOf cs k).md.rounds * (mcOf cs k).md.slots := Int.mul_nonneg (by omega) (by omega)
    have h6 : (mcOf cs k).md.rounds * (mcOf cs k).md.slots ≤ 8 * 16 := Int.mul_le_mul h2 h4 (by omega) (by omega)
    rw [IntKind.wrap_i64]; omega
  have HM := Lib.hid hm
  clear hmd hm0 hm1 hm hlen
  rw [HF.out]
  clear HF
  go_enter Try.func54, Try.ntmps54
  go_wp2_with fail
  refine HC.out.mono ?_
  rintro e w1 ⟨rfl, b1⟩
  rw [hi]
  obtain ⟨b, off, rfl, hlt, hx, -⟩ := HR.out.at hkn
  replace hx := hx.below b1 hlt
  obtain ⟨h0, h1, -⟩ := hx
  have HBB := Lib.hid b1
  clear b1 HC HR hlt
  go_wp2_with fail
  refine (HLM.out _).mono ?_
  rintro e w2 ⟨rfl, rfl⟩
  rw [HM.out]
  go_wp2_with fail
  go_quiet (fail)
  go_wp2_with fail
  go_ret2
  exact ⟨rfl, below_drewN' HBB.out _⟩
set_option maxHeartbeats 1000000 in
set_option maxRecDepth 100000 in
theorem mayChangeS_any (ao : Option Addr) (n cap : Nat) (cs : List Mc) (a b : Int) (w : World) (hr : RdM w ao n cs) (hn : n ≤ 1048576) (hs : smallM cs) :
    Calls Try.prog 40 #[.slice ao n cap, .int .i64 a, .int .i64 b] w fun e w' => e = .returned (.bool (mayChange (mds cs) a b)) ∧ Below w.heap.size w w' := by
  have HC := Lib.hid (isModesS_any ao n cap cs _ hr hn hs)
  have HLM := Lib.hid (fun W => l11Mode_any ao n cap a (mds cs) W ((mds_len cs).trans hr.len) hn)
  have hlen := (mds_len cs).trans hr.len
  have HR := Lib.hid hr
  rcases hi : isModes (mds cs) with _ | _
  · have HF := Lib.hid (show mayChange (mds cs) a b = false from by unfold mayChange; rw [hi]; rfl)
    clear hr hs
    go_enter Try.func40, Try.ntmps40
    go_wp2_with fail
    refine HC.out.mono ?_
    rintro e w1 ⟨rfl, b1⟩
    rw [hi]
    go_wp2_with fail
    go_ret
    rw [HF.out]
    exact ⟨rfl, b1⟩
  rcases hm : isMode (mds cs) a with _ | _
  · have HF := Lib.hid (show mayChange (mds cs) a b = false from by unfold mayChange; rw [hi, hm]; rfl)
    clear hr hs
    go_enter Try.func40, Try.ntmps40
    go_wp2_with fail
    refine HC.out.mono ?_
    rintro e w1 ⟨rfl, b1⟩
    rw [hi]
    go_wp2_with fail
    refine (HLM.out _).mono ?_
    rintro e w2 ⟨rfl, rfl⟩
    rw [hm]
    go_wp2_with fail
    go_ret
    rw [HF.out]
    exact ⟨rfl, b1⟩
  obtain ⟨hm0, hm1⟩ := isMode_iff.1 hm
  obtain ⟨k, rfl⟩ : ∃ k : Nat, a = k := ⟨a.toNat, by omega⟩
  have hkn : k < n := by omega
  have HF := Lib.hid (show mayChange (mds cs) k b = decide (b ∈ (mcOf cs k).md.next) from by unfold mayChange; rw [hi, hm, Int.toNat_natCast, mdOf_mds]; rfl)
  have hsm := hs _ (mcOf_mem (cs := cs) (i := k) (by rw [hr.len]; exact hkn))
  have HM := Lib.hid hm
  clear hm0 hm1 hm hlen hr hs
  go_enter Try.func40, Try.ntmps40
  go_wp2_with fail
  refine HC.out.mono ?_
  rintro e w1 ⟨rfl, b1⟩
  rw [hi]
  obtain ⟨g, off, rfl, hlt, hx, hrd⟩ := HR.out.at hkn
  replace hx := hx.below b1 hlt
  replace hrd := hrd.below b1
  generalize mcOf cs k = c at hx hrd hsm HF
  obtain ⟨-, -, h2⟩ := hx
  have HBB := Lib.hid b1
  have HCON := Lib.hid (l01Has_any c.ao c.md.next.length c.cap c.md.next b _ hrd.rd (by omega))
  clear b1 HC HR hlt hrd hsm
  go_wp2_with fail
  refine (HLM.out _).mono ?_
  rintro e w2 ⟨rfl, rfl⟩
  rw [HM.out]
  go_wp2_with fail
  refine HCON.out.mono ?_
  rintro e w2 ⟨rfl, rfl⟩
  go_wp2_with fail
  go_ret
  rw [HF.out]
  exact ⟨rfl, HBB.out⟩
end Go.Proofs.Ytfmedckompdjgaa
