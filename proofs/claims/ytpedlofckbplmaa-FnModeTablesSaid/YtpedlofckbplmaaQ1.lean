/-
  Chapter 11: the program's IsModeTable, its codes; CycleSlots; MayChange.
-/
import Derived.Test.YtpedlofckbplmaaP1
import Derived.Test.YtpedlofckbplmaaCtn
import Derived.Test.YtpedlofckbplmaaOneB
import Derived.BigQuiet
namespace Go.Proofs.Ytpedlofckbplmaa
open Go.RowKit

def smallM (cs : List Mc) : Prop := ∀ c ∈ cs, c.md.next.length ≤ 1048576
theorem isCycle_any (r s : Int) (w : World) : Calls Try.prog 74 #[.int .i64 r, .int .i64 s] w fun e w' => e = .returned (.bool (inRange 1 8 r && inRange 1 16 s)) ∧ w = w' := by
  by_cases h0 : 1 ≤ r
  · by_cases h1 : r ≤ 8
    · by_cases h2 : 1 ≤ s
      · by_cases h3 : s ≤ 16
        · have e : (inRange 1 8 r && inRange 1 16 s) = true := by simp [inRange, h0, h1, h2, h3]
          have HE := Lib.hid e; clear e
          go_enter Try.func74, Try.ntmps74
          go_wp2
          go_ret
          exact ⟨ret_bool (by rw [HE.out] <;> first | rfl | (simp; omega)), rfl⟩
        · have e : (inRange 1 8 r && inRange 1 16 s) = false := by simp [inRange, h3]
          have HE := Lib.hid e; clear e
          go_enter Try.func74, Try.ntmps74
          go_wp2
          go_ret
          exact ⟨ret_bool (by rw [HE.out] <;> first | rfl | (simp; omega)), rfl⟩
      · have e : (inRange 1 8 r && inRange 1 16 s) = false := by simp [inRange, h2]
        have HE := Lib.hid e; clear e
        go_enter Try.func74, Try.ntmps74
        go_wp2
        go_ret
        exact ⟨ret_bool (by rw [HE.out] <;> first | rfl | (simp; omega)), rfl⟩
    · have e : (inRange 1 8 r && inRange 1 16 s) = false := by simp [inRange, h1]
      have HE := Lib.hid e; clear e
      go_enter Try.func74, Try.ntmps74
      go_wp2
      go_ret
      exact ⟨ret_bool (by rw [HE.out] <;> first | rfl | (simp; omega)), rfl⟩
  · have e : (inRange 1 8 r && inRange 1 16 s) = false := by simp [inRange, h0]
    have HE := Lib.hid e; clear e
    go_enter Try.func74, Try.ntmps74
    go_wp2
    go_ret
    exact ⟨ret_bool (by rw [HE.out] <;> first | rfl | (simp; omega)), rfl⟩
theorem okM_next {t : List Md} {k : Nat} (h : ∀ i, i < k → isMd t.length i (mdOf t i) = true) (hk : isMd t.length k (mdOf t k) = true) : ∀ i, i < k + 1 → isMd t.length i (mdOf t i) = true := fun i hi => by
  rcases Nat.lt_or_ge i k with hl | hl
  · exact h i hl
  · rw [show i = k from by omega]; exact hk
set_option maxHeartbeats 1000000 in
set_option maxRecDepth 100000 in
theorem isModesI_any (ao : Option Addr) (n cap : Nat) (cs : List Mc) (w : World) (hr : RdM w ao n cs) (hn : n ≤ 1048576) (hs : smallM cs) :
    Calls Try.prog 33 #[.slice ao n cap] w fun e w' => e = .returned (.bool (isModes (mds cs))) ∧ Below w.heap.size w w' := by
  have hl := (mds_len cs).trans hr.len
  by_cases h0 : n = 0
  · have hF : isModes (mds cs) = false := by unfold isModes; rw [hl, h0]; rfl
    have HF := Lib.hid hF; clear hr hl hs hF
    subst h0
    go_enter Try.func33, Try.ntmps33
    go_wp2
    go_ret
    rw [HF.out]
    exact ⟨rfl, Below.refl _ _⟩
  have hz : ((n : Int) == 0) = false := by simp [h0]
  by_cases h16 : 16 < n
  · have hF : isModes (mds cs) = false := by unfold isModes; rw [hl, decide_eq_false (show ¬ n ≤ 16 by omega)]; simp
    have HF := Lib.hid hF; clear hr hl hs hF h0
    have hg : (16 : Int) < (n : Int) := by omega
    go_enter Try.func33, Try.ntmps33
    go_wp2
    go_ret
    rw [HF.out]
    exact ⟨rfl, Below.refl _ _⟩
  have HL := Lib.hid hl
  have HR := Lib.hid hr
  have HS := Lib.hid hs
  have hg : ¬ (16 : Int) < (n : Int) := by omega
  have HN := Lib.hid (show 1 ≤ n ∧ n ≤ 16 by omega)
  clear hl hr hs h0 h16
  go_enter Try.func33, Try.ntmps33
  go_wp2_with fail
  clear hz hg
  go_loopw [15] (fun i wr => ∃ k : Nat, k ≤ n ∧ i = .int .i64 k ∧ Below w.heap.size w wr ∧ Hid (∀ i, i < k → isMd (mds cs).length i (mdOf (mds cs) i) = true)) (fun i _ => n - (intOf i).toNat)
  case atStart => exact ⟨0, Nat.zero_le _, rfl, Below.refl _ _, fun i h => absurd h (by omega)⟩
  case round =>
    obtain ⟨k, hk, rfl, hb, hall⟩ := hrel
    by_cases hlt : k < n
    · obtain ⟨g, off, rfl, hg, hx, hrd⟩ := HR.out.at hlt
      replace hx := hx.below hb hg
      replace hrd := hrd.below hb
      have hkt : k < cs.length := by rw [HR.out.len]; exact hlt
      have hsm := HS.out _ (mcOf_mem hkt)
      have hno : isMd n k (mcOf cs k).md = false → isModes (mds cs) = false := fun h => modes_no (k := k) (by rw [mds_len]; exact hkt) (by rw [HL.out, mdOf_mds]; exact h)
      have hyes : isMd n k (mcOf cs k).md = true → ∀ i, i < k + 1 → isMd (mds cs).length i (mdOf (mds cs) i) = true := fun h => okM_next hall.out (by rw [HL.out, mdOf_mds]; exact h)
      generalize mcOf cs k = c at hx hrd hsm hno hyes
      have HNO := Lib.hid hno; have HYES := Lib.hid hyes; have HB0 := Lib.hid hb
      clear hno hyes hb hkt hall
      obtain ⟨⟨r, s, xs⟩, xo, xc⟩ := c
      obtain ⟨h0, h1, h2⟩ := hx
      have hrr := hrd.rd
      dsimp only at h0 h1 h2 hrr hsm
      have hb1 := (Below.refl wr.heap.size wr).alloc (Nat.le_refl _) (.cells #[.int .i64 r, .int .i64 s, .slice xo xs.length xc] 78)
      have HB := Lib.hid (below_two HB0.out hb1)
      have HIDX := Lib.hid (areIndices_any xo xs.length xc xs n _ (hrr.below hb1) (by omega))
      have HCON := Lib.hid (contains_any xo xs.length xc xs k _ (hrr.below hb1) hsm)
      have HMD := Lib.hid (show isMd n k ⟨r, s, xs⟩ = ((inRange 1 8 r && inRange 1 16 s) && (rises (n : Int) xs && !decide ((k : Int) ∈ xs))) by unfold isMd; dsimp only; rw [Bool.and_assoc])
      clear hb1 hrd hrr hsm HB0
      rcases hcy : (inRange 1 8 r && inRange 1 16 s) with _ | _
      · have HF := Lib.hid (HNO.out (by rw [HMD.out, hcy]; rfl))
        go_wp2_with fail
        refine (isCycle_any r s _).mono ?_
        rintro e w2 ⟨rfl, rfl⟩
        rw [hcy]
        clear h0 h1 h2
        go_wp2_with fail
        go_ret
        rw [HF.out]
        exact ⟨rfl, HB.out⟩
      rcases hri : rises (n : Int) xs with _ | _
      · have HF := Lib.hid (HNO.out (by rw [HMD.out, hcy, hri]; rfl))
        go_wp2_with fail
        refine (isCycle_any r s _).mono ?_
        rintro e w2 ⟨rfl, rfl⟩
        rw [hcy]
        clear h0 h1 h2
        go_wp2_with fail
        refine HIDX.out.mono ?_
        rintro e w2 ⟨rfl, rfl⟩
        rw [hri]
        go_wp2_with fail
        go_ret
        rw [HF.out]
        exact ⟨rfl, HB.out⟩
      rcases hco : decide ((k : Int) ∈ xs) with _ | _
      · have HF := Lib.hid (HYES.out (by rw [HMD.out, hcy, hri, hco]; rfl))
        go_wp2_with fail
        refine (isCycle_any r s _).mono ?_
        rintro e w2 ⟨rfl, rfl⟩
        rw [hcy]
        clear h0 h1 h2
        go_wp2_with fail
        refine HIDX.out.mono ?_
        rintro e w2 ⟨rfl, rfl⟩
        rw [hri]
        go_wp2_with fail
        refine HCON.out.mono ?_
        rintro e w2 ⟨rfl, rfl⟩
        rw [hco]
        go_wp2_with fail
        go_roundw
        case rel => exact ⟨k + 1, by omega, by go_num, HB.out, HF⟩
        case measure => simp [intOf]; omega
      · have HF := Lib.hid (HNO.out (by rw [HMD.out, hcy, hri, hco]; rfl))
        go_wp2_with fail
        refine (isCycle_any r s _).mono ?_
        rintro e w2 ⟨rfl, rfl⟩
        rw [hcy]
        clear h0 h1 h2
        go_wp2_with fail
        refine HIDX.out.mono ?_
        rintro e w2 ⟨rfl, rfl⟩
        rw [hri]
        go_wp2_with fail
        refine HCON.out.mono ?_
        rintro e w2 ⟨rfl, rfl⟩
        rw [hco]
        go_wp2_with fail
        go_ret
        rw [HF.out]
        exact ⟨rfl, HB.out⟩
    · have hkn : k = n := by omega
      subst hkn
      have HF := Lib.hid (show isModes (mds cs) = true from isModes_iff.2 ⟨by rw [HL.out]; exact HN.out, by rw [HL.out]; rw [HL.out] at hall; exact hall.out⟩)
      have HB := Lib.hid hb; clear hb hall
      go_wp2_with fail
      go_ret
      rw [HF.out]
      exact ⟨rfl, HB.out⟩

/-! ### codes -/
theorem isModeOf_any (ao : Option Addr) (n cap : Nat) (m : Int) (t : List Md) (w : World) (hl : t.length = n) (_hn : n ≤ 9223372036854775807) :
    Calls Try.prog 108 #[.slice ao n cap, .int .i64 m] w fun e w' => e = .returned (.bool (isMode t m)) ∧ w = w' := by
  by_cases h0 : 0 ≤ m
  · by_cases h1 : m < n
    · have HE := Lib.hid (show isMode t m = true from isMode_iff.2 ⟨h0, by rw [hl]; exact h1⟩)
      go_enter Try.func108, Try.ntmps108
      go_wp2
      go_ret
      exact ⟨ret_bool (by rw [HE.out] <;> first | rfl | (simp; omega)), rfl⟩
    · have HE := Lib.hid (show isMode t m = false from by rw [Bool.eq_false_iff]; intro h; exact h1 (by have := (isMode_iff.1 h).2; omega))
      go_enter Try.func108, Try.ntmps108
      go_wp2
      go_ret
      exact ⟨ret_bool (by rw [HE.out] <;> first | rfl | (simp; omega)), rfl⟩
  · have HE := Lib.hid (show isMode t m = false from by rw [Bool.eq_false_iff]; intro h; exact h0 (isMode_iff.1 h).1)
    go_enter Try.func108, Try.ntmps108
    go_wp2
    go_ret
    exact ⟨ret_bool (by rw [HE.out] <;> first | rfl | (simp; omega)), rfl⟩
def codeM (t : List Md) (ms : List Int) : Int := if isModes t = false then 1 else if ms.all (isMode t) = true then 0 else 2
set_option maxHeartbeats 1000000 in
set_option maxRecDepth 100000 in
theorem codeM_any (ao : Option Addr) (n cap : Nat) (cs : List Mc) (mo : Option Addr) (m mc : Nat) (ms : List Int) (w : World) (hr : RdM w ao n cs) (hn : n ≤ 1048576) (hs : smallM cs) (hm : Rd w mo m ms) (hmn : m ≤ 1048576) :
    Calls Try.prog 68 #[.slice ao n cap, .slice mo m mc] w fun e w' => e = .returned (.int .i64 (codeM (mds cs) ms)) ∧ Below w.heap.size w w' := by
  have HIS := Lib.hid (isModesI_any ao n cap cs w hr hn hs)
  have HL := Lib.hid ((mds_len cs).trans hr.len)
  rcases hi : isModes (mds cs) with _ | _
  · have HF := Lib.hid (show codeM (mds cs) ms = 1 from by unfold codeM; rw [if_pos hi])
    clear hr hm hs
    go_enter Try.func68, Try.ntmps68
    go_wp2_with fail
    refine HIS.out.mono ?_
    rintro e w1 ⟨rfl, b1⟩
    rw [hi]
    go_wp2_with fail
    go_ret
    rw [HF.out]
    exact ⟨rfl, b1⟩
  have HF0 := Lib.hid (show ms.all (isMode (mds cs)) = true → codeM (mds cs) ms = 0 from fun h => by unfold codeM; rw [if_neg (by rw [hi]; simp), if_pos h])
  have HF2 := Lib.hid (show ∀ k, k < ms.length → isMode (mds cs) (ms.getD k 0) = false → codeM (mds cs) ms = 2 from fun k hk h => by
    unfold codeM; rw [if_neg (by rw [hi]; simp), if_neg]
    intro h2
    have := List.all_eq_true.1 h2 (ms.getD k 0) (getD_mem' hk)
    rw [h] at this; cases this)
  have HM := Lib.hid hm
  have HML := Lib.hid hm.len
  clear hr hm hs
  go_enter Try.func68, Try.ntmps68
  go_wp2_with fail
  refine HIS.out.mono ?_
  rintro e w1 ⟨rfl, b1⟩
  rw [hi]
  have HM1 := Lib.hid (HM.out.below b1); have HB1 := Lib.hid b1
  clear b1 HM HIS
  go_wp2_with fail
  go_loopw [12] (fun i wr => ∃ k : Nat, k ≤ m ∧ i = .int .i64 k ∧ wr = w1 ∧ Hid (∀ j, j < k → isMode (mds cs) (ms.getD j 0) = true)) (fun i _ => m - (intOf i).toNat)
  case atStart => exact ⟨0, Nat.zero_le _, rfl, rfl, fun i h => absurd h (by omega)⟩
  case round =>
    obtain ⟨k, hk, rfl, rfl, hall⟩ := hrel
    by_cases hlt : k < m
    · obtain ⟨b, off, rfl, hc⟩ := HM1.out.here (by omega)
      have hck := hc k hlt
      have HF2k := Lib.hid (HF2.out k (by rw [HML.out]; exact hlt))
      have HYES := Lib.hid (show isMode (mds cs) (ms.getD k 0) = true → ∀ j, j < k + 1 → isMode (mds cs) (ms.getD j 0) = true from fun h j hj => by
        rcases Nat.lt_or_ge j k with hl | hl
        · exact hall.out j hl
        · rw [show j = k from by omega]; exact h)
      obtain ⟨x, hx⟩ : ∃ x, x = ms.getD k 0 := ⟨_, rfl⟩
      rw [← hx] at hck HF2k HYES
      clear hc hx hall
      rcases hmo : isMode (mds cs) x with _ | _
      · have HF := Lib.hid (HF2k.out hmo)
        go_wp2_with fail
        refine (isModeOf_any ao n cap x (mds cs) _ HL.out (by omega)).mono ?_
        rintro e w2 ⟨rfl, rfl⟩
        rw [hmo]
        go_wp2_with fail
        go_ret
        rw [HF.out]
        exact ⟨rfl, HB1.out⟩
      · have HF := Lib.hid (HYES.out hmo)
        go_wp2_with fail
        refine (isModeOf_any ao n cap x (mds cs) _ HL.out (by omega)).mono ?_
        rintro e w2 ⟨rfl, rfl⟩
        rw [hmo]
        go_wp2_with fail
        go_roundw
        case rel => exact ⟨k + 1, by omega, by go_num, trivial, HF⟩
        case measure => simp [intOf]; omega
    · have hkn : k = m := by omega
      subst hkn
      have HF := Lib.hid (HF0.out (by
        rw [List.all_eq_true]
        intro x hx
        obtain ⟨j, hj, rfl⟩ := (getD_mem_iff ms x).1 hx
        exact hall.out j (by rw [← HML.out]; exact hj)))
      go_wp2_with fail
      go_ret
      rw [HF.out]
      exact ⟨rfl, HB1.out⟩
theorem codeM_one (t : List Md) (a : Int) : codeM t [a] = if isModes t = false then 1 else if isMode t a = false then 2 else 0 := by
  unfold codeM
  rcases isModes t with _ | _ <;> rcases h : isMode t a with _ | _ <;> simp [h]
theorem codeM_two (t : List Md) (a b : Int) : codeM t [a, b] = if isModes t = false then 1 else if (isMode t a && isMode t b) = false then 2 else 0 := by
  unfold codeM
  rcases isModes t with _ | _ <;> rcases h : isMode t a with _ | _ <;> rcases h2 : isMode t b with _ | _ <;> simp [h, h2]
theorem codeM_nil (t : List Md) : codeM t [] = if isModes t = false then 1 else 0 := by
  unfold codeM
  rcases isModes t with _ | _ <;> simp
theorem rdm_one (T : Nat) (x : Int) (w : World) : Rd (w.alloc (.cells #[.int .i64 x] T)) (some ⟨w.heap.size, 0, none⟩) 1 [x] := rd_one T x w

/-! ### CycleSlots, MayChange -/
end Go.Proofs.Ytpedlofckbplmaa
