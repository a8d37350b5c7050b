/-
  Contracts of the program's, the model's and the laws' functions, and plain mathematics, on which a proof of this claim stands (part M).
-/
import Derived.Deep.DeepCutAuto
import Derived.Deep.RegionHeld3
import Derived.BigQuiet
import Derived.Test.YthihjhidjnadaaaGreatP27A
namespace Go.Proofs.YthihjhidjnadaaaGreat
section
open Go.RowKit
theorem infoMd : (Tryz.prog.info? 99).map (fun i => (i.zero, i.size, i.bytes)) = some (some (mcVal Mc.zero), 3, 40) := by kernel_rfl
theorem ne_md : 99 ≠ 2 := by decide
def mTot : List Md → Nat
  | [] => 0
  | x :: r => 2 + x.next.length + mTot r
end

section
open Go.RowKit
def FirstAt (xs : List Int) (x r : Int) : Prop := (r = -1 ∧ ∀ j, j < xs.length → xs.getD j 0 ≠ x) ∨ ∃ k : Nat, r = k ∧ k < xs.length ∧ xs.getD k 0 = x ∧ ∀ j, j < k → xs.getD j 0 ≠ x
theorem getD_mem_iff (xs : List Int) (x : Int) : x ∈ xs ↔ ∃ j, j < xs.length ∧ xs.getD j 0 = x := by
  rw [List.mem_iff_getElem]
  constructor
  · rintro ⟨j, h, e⟩; exact ⟨j, h, by simpa [List.getD, h] using e⟩
  · rintro ⟨j, h, e⟩; exact ⟨j, h, by simpa [List.getD, h] using e⟩
theorem firstAt_mem {xs : List Int} {x r : Int} (h : FirstAt xs x r) : (decide (0 ≤ r)) = decide (x ∈ xs) := by
  rw [decide_eq_decide, getD_mem_iff]
  rcases h with ⟨h1, h2⟩ | ⟨k, h1, h2, h3, h4⟩
  · constructor
    · intro h; omega
    · rintro ⟨j, hj, e⟩; exact absurd e (h2 j hj)
  · exact ⟨fun _ => ⟨k, h2, h3⟩, fun _ => by omega⟩
theorem index_any (ao : Option Addr) (n cap : Nat) (xs : List Int) (x : Int) (w : World) (hr : Rd w ao n xs) (hn : n ≤ 1048576) :
    Calls Tryz.prog 204 #[.slice ao n cap, .int .i64 x] w fun e w' => ∃ r, e = .returned (.int .i64 r) ∧ FirstAt xs x r ∧ w = w' := by
  obtain ⟨hlen, hat⟩ := hr
  have HL := Lib.hid hlen; clear hlen
  have HA := Lib.hid hat; clear hat
  go_enter Tryz.func204, Tryz.ntmps204
  go_wp2
  go_loop [8] (fun i => ∃ k : Nat, k ≤ n ∧ i = .int .i64 k ∧ Hid (∀ j, j < k → xs.getD j 0 ≠ x)) (fun i => n - (intOf i).toNat)
  case atStart => exact ⟨0, Nat.zero_le _, rfl, fun j h => absurd h (by omega)⟩
  case round =>
    obtain ⟨k, hk, rfl, HY⟩ := hrel
    by_cases hlt : k < n
    · obtain ⟨b, off, rfl, hall⟩ := HA.out (by omega)
      have hck := hall k hlt
      clear hall
      obtain ⟨y, hy⟩ : ∃ y, y = xs.getD k 0 := ⟨_, rfl⟩
      rw [← hy] at hck
      have HYK := Lib.hid hy; clear hy
      by_cases hxy : x = y
      · have t1 : (x == y) = true := by simp [hxy]
        have hfin : FirstAt xs x k := .inr ⟨k, rfl, by rw [HL.out]; exact hlt, by rw [← HYK.out, hxy], HY.out⟩
        have HF := Lib.hid hfin; clear hfin hxy
        go_wp2
        go_ret
        exact ⟨_, rfl, HF.out, rfl⟩
      · have t1 : (x == y) = false := by simp [hxy]
        have hfin : ∀ j, j < k + 1 → xs.getD j 0 ≠ x := fun j hj => by
          by_cases e : j = k
          · rw [e, ← HYK.out]; exact fun h => hxy h.symm
          · exact HY.out j (by omega)
        have HF := Lib.hid hfin; clear hfin hxy
        go_wp2
        go_round
        case rel => exact ⟨k + 1, by omega, by go_num, HF⟩
        case measure => simp [intOf]; omega
    · have hkn : k = n := by omega
      subst hkn
      have hfin : FirstAt xs x (-1) := .inl ⟨rfl, fun j hj => HY.out j (by rw [← HL.out]; exact hj)⟩
      have HF := Lib.hid hfin; clear hfin
      go_wp2
      go_ret
      exact ⟨_, rfl, HF.out, rfl⟩
theorem contains_any (ao : Option Addr) (n cap : Nat) (xs : List Int) (x : Int) (w : World) (hr : Rd w ao n xs) (hn : n ≤ 1048576) :
    Calls Tryz.prog 174 #[.slice ao n cap, .int .i64 x] w fun e w' => e = .returned (.bool (decide (x ∈ xs))) ∧ w = w' := by
  have HR := Lib.hid hr; clear hr
  go_enter Tryz.func174, Tryz.ntmps174
  go_wp2_with fail
  refine (index_any _ _ _ xs x _ HR.out hn).mono ?_
  rintro e w' ⟨r, rfl, hf, rfl⟩
  have HF := Lib.hid (firstAt_mem hf); clear hf
  go_wp2
  go_ret
  exact ⟨ret_bool HF.out, rfl⟩
end

section
open Go.RowKit
def smallM (cs : List Mc) : Prop := ∀ c ∈ cs, c.md.next.length ≤ 1048576
theorem isCycle_any (r s : Int) (w : World) : Calls Tryz.prog 172 #[.int .i64 r, .int .i64 s] w fun e w' => e = .returned (.bool (inRange 1 8 r && inRange 1 16 s)) ∧ w = w' := by
  by_cases h0 : 1 ≤ r
  · by_cases h1 : r ≤ 8
    · by_cases h2 : 1 ≤ s
      · by_cases h3 : s ≤ 16
        · have e : (inRange 1 8 r && inRange 1 16 s) = true := by simp [inRange, h0, h1, h2, h3]
          have HE := Lib.hid e; clear e
          go_enter Tryz.func172, Tryz.ntmps172
          go_wp2
          go_ret
          exact ⟨ret_bool (by rw [HE.out] <;> first | rfl | (simp; omega)), rfl⟩
        · have e : (inRange 1 8 r && inRange 1 16 s) = false := by simp [inRange, h3]
          have HE := Lib.hid e; clear e
          go_enter Tryz.func172, Tryz.ntmps172
          go_wp2
          go_ret
          exact ⟨ret_bool (by rw [HE.out] <;> first | rfl | (simp; omega)), rfl⟩
      · have e : (inRange 1 8 r && inRange 1 16 s) = false := by simp [inRange, h2]
        have HE := Lib.hid e; clear e
        go_enter Tryz.func172, Tryz.ntmps172
        go_wp2
        go_ret
        exact ⟨ret_bool (by rw [HE.out] <;> first | rfl | (simp; omega)), rfl⟩
    · have e : (inRange 1 8 r && inRange 1 16 s) = false := by simp [inRange, h1]
      have HE := Lib.hid e; clear e
      go_enter Tryz.func172, Tryz.ntmps172
      go_wp2
      go_ret
      exact ⟨ret_bool (by rw [HE.out] <;> first | rfl | (simp; omega)), rfl⟩
  · have e : (inRange 1 8 r && inRange 1 16 s) = false := by simp [inRange, h0]
    have HE := Lib.hid e; clear e
    go_enter Tryz.func172, Tryz.ntmps172
    go_wp2
    go_ret
    exact ⟨ret_bool (by rw [HE.out] <;> first | rfl | (simp; omega)), rfl⟩
theorem okM_next {t : List Md} {k : Nat} (h : ∀ i, i < k → isMd t.length i (mdOf t i) = true) (hk : isMd t.length k (mdOf t k) = true) : ∀ i, i < k + 1 → isMd t.length i (mdOf t i) = true := fun i hi => by
  rcases Nat.lt_or_ge i k with hl | hl
  · exact h i hl
  · rw [show i = k from by omega]; exact hk
set_option maxHeartbeats 1000000 in
set_option maxRecDepth 100000 in
theorem isModesI_any (ao : Option Addr) (n cap : Nat) (cs : List Mc) (w : World) (hr : RdM w ao n cs) (hn : n ≤ 1048576) (hs : smallM cs) :
    Calls Tryz.prog 133 #[.slice ao n cap] w fun e w' => e = .returned (.bool (isModes (mds cs))) ∧ Below w.heap.size w w' := by
  have hl := (mds_len cs).trans hr.len
  by_cases h0 : n = 0
  · have hF : isModes (mds cs) = false := by unfold isModes; rw [hl, h0]; rfl
    have HF := Lib.hid hF; clear hr hl hs hF
    subst h0
    go_enter Tryz.func133, Tryz.ntmps133
    go_wp2
    go_ret
    rw [HF.out]
    exact ⟨rfl, Below.refl _ _⟩
  have hz : ((n : Int) == 0) = false := by simp [h0]
  by_cases h16 : 16 < n
  · have hF : isModes (mds cs) = false := by unfold isModes; rw [hl, decide_eq_false (show ¬ n ≤ 16 by omega)]; simp
    have HF := Lib.hid hF; clear hr hl hs hF h0
    have hg : (16 : Int) < (n : Int) := by omega
    go_enter Tryz.func133, Tryz.ntmps133
    go_wp2
    go_ret
    rw [HF.out]
    exact ⟨rfl, Below.refl _ _⟩
  have HL := Lib.hid hl
  have HR := Lib.hid hr
  have HS := Lib.hid hs
  have hg : ¬ (16 : Int) < (n : Int) := by omega
  have HN := Lib.hid (show 1 ≤ n ∧ n ≤ 16 by omega)
  clear hl hr hs h0 h16
  go_enter Tryz.func133, Tryz.ntmps133
  go_wp2_with fail
  clear hz hg
  go_loopw [15] (fun i wr => ∃ k : Nat, k ≤ n ∧ i = .int .i64 k ∧ Below w.heap.size w wr ∧ Hid (∀ i, i < k → isMd (mds cs).length i (mdOf (mds cs) i) = true)) (fun i _ => n - (intOf i).toNat)
  case atStart => exact ⟨0, Nat.zero_le _, rfl, Below.refl _ _, fun i h => absurd h (by omega)⟩
  case round =>
    obtain ⟨k, hk, rfl, hb, hall⟩ := hrel
    by_cases hlt : k < n
    · obtain ⟨g, off, rfl, hg, hx, hrd⟩ := HR.out.at hlt
      replace hx := hx.below hb hg
      replace hrd := hrd.below hb
      have hkt : k < cs.length := by rw [HR.out.len]; exact hlt
      have hsm := HS.out _ (mcOf_mem hkt)
      have hno : isMd n k (mcOf cs k).md = false → isModes (mds cs) = false := fun h => modes_no (k := k) (by rw [mds_len]; exact hkt) (by rw [HL.out, mdOf_mds]; exact h)
      have hyes : isMd n k (mcOf cs k).md = true → ∀ i, i < k + 1 → isMd (mds cs).length i (mdOf (mds cs) i) = true := fun h => okM_next hall.out (by rw [HL.out, mdOf_mds]; exact h)
      generalize mcOf cs k = c at hx hrd hsm hno hyes
      have HNO := Lib.hid hno; have HYES := Lib.hid hyes; have HB0 := Lib.hid hb
      clear hno hyes hb hkt hall
      obtain ⟨⟨r, s, xs⟩, xo, xc⟩ := c
      obtain ⟨h0, h1, h2⟩ := hx
      have hrr := hrd.rd
      dsimp only at h0 h1 h2 hrr hsm
      have hb1 := (Below.refl wr.heap.size wr).alloc (Nat.le_refl _) (.cells #[.int .i64 r, .int .i64 s, .slice xo xs.length xc] 99)
      have HB := Lib.hid (below_two HB0.out hb1)
      have HIDX := Lib.hid (areIndices_any xo xs.length xc xs n _ (hrr.below hb1) (by omega))
      have HCON := Lib.hid (contains_any xo xs.length xc xs k _ (hrr.below hb1) hsm)
      have HMD := Lib.hid (show isMd n k ⟨r, s, xs⟩ = ((inRange 1 8 r && inRange 1 16 s) && (rises (n : Int) xs && !decide ((k : Int) ∈ xs))) by unfold isMd; dsimp only; rw [Bool.and_assoc])
      clear hb1 hrd hrr hsm HB0
      rcases hcy : (inRange 1 8 r && inRange 1 16 s) with _ | _
      · have HF := Lib.hid (HNO.out (by rw [HMD.out, hcy]; rfl))
        go_wp2_with fail
        refine (isCycle_any r s _).mono ?_
        rintro e w2 ⟨rfl, rfl⟩
        rw [hcy]
        clear h0 h1 h2
        go_wp2_with fail
        go_ret
        rw [HF.out]
        exact ⟨rfl, HB.out⟩
      rcases hri : rises (n : Int) xs with _ | _
      · have HF := Lib.hid (HNO.out (by rw [HMD.out, hcy, hri]; rfl))
        go_wp2_with fail
        refine (isCycle_any r s _).mono ?_
        rintro e w2 ⟨rfl, rfl⟩
        rw [hcy]
        clear h0 h1 h2
        go_wp2_with fail
        refine HIDX.out.mono ?_
        rintro e w2 ⟨rfl, rfl⟩
        rw [hri]
        go_wp2_with fail
        go_ret
        rw [HF.out]
        exact ⟨rfl, HB.out⟩
      rcases hco : decide ((k : Int) ∈ xs) with _ | _
      · have HF := Lib.hid (HYES.out (by rw [HMD.out, hcy, hri, hco]; rfl))
        go_wp2_with fail
        refine (isCycle_any r s _).mono ?_
        rintro e w2 ⟨rfl, rfl⟩
        rw [hcy]
        clear h0 h1 h2
        go_wp2_with fail
        refine HIDX.out.mono ?_
        rintro e w2 ⟨rfl, rfl⟩
        rw [hri]
        go_wp2_with fail
        refine HCON.out.mono ?_
        rintro e w2 ⟨rfl, rfl⟩
        rw [hco]
        go_wp2_with fail
        go_roundw
        case rel => exact ⟨k + 1, by omega, by go_num, HB.out, HF⟩
        case measure => simp [intOf]; omega
      · have HF := Lib.hid (HNO.out (by rw [HMD.out, hcy, hri, hco]; rfl))
        go_wp2_with fail
        refine (isCycle_any r s _).mono ?_
        rintro e w2 ⟨rfl, rfl⟩
        rw [hcy]
        clear h0 h1 h2
        go_wp2_with fail
        refine HIDX.out.mono ?_
        rintro e w2 ⟨rfl, rfl⟩
        rw [hri]
        go_wp2_with fail
        refine HCON.out.mono ?_
        rintro e w2 ⟨rfl, rfl⟩
        rw [hco]
        go_wp2_with fail
        go_ret
        rw [HF.out]
        exact ⟨rfl, HB.out⟩
    · have hkn : k = n := by omega
      subst hkn
      have HF := Lib.hid (show isModes (mds cs) = true from isModes_iff.2 ⟨by rw [HL.out]; exact HN.out, by rw [HL.out]; rw [HL.out] at hall; exact hall.out⟩)
      have HB := Lib.hid hb; clear hb hall
      go_wp2_with fail
      go_ret
      rw [HF.out]
      exact ⟨rfl, HB.out⟩
theorem isModeOf_any (ao : Option Addr) (n cap : Nat) (m : Int) (t : List Md) (w : World) (hl : t.length = n) (_hn : n ≤ 9223372036854775807) :
    Calls Tryz.prog 134 #[.slice ao n cap, .int .i64 m] w fun e w' => e = .returned (.bool (isMode t m)) ∧ w = w' := by
  by_cases h0 : 0 ≤ m
  · by_cases h1 : m < n
    · have HE := Lib.hid (show isMode t m = true from isMode_iff.2 ⟨h0, by rw [hl]; exact h1⟩)
      go_enter Tryz.func134, Tryz.ntmps134
      go_wp2
      go_ret
      exact ⟨ret_bool (by rw [HE.out] <;> first | rfl | (simp; omega)), rfl⟩
    · have HE := Lib.hid (show isMode t m = false from by rw [Bool.eq_false_iff]; intro h; exact h1 (by have := (isMode_iff.1 h).2; omega))
      go_enter Tryz.func134, Tryz.ntmps134
      go_wp2
      go_ret
      exact ⟨ret_bool (by rw [HE.out] <;> first | rfl | (simp; omega)), rfl⟩
  · have HE := Lib.hid (show isMode t m = false from by rw [Bool.eq_false_iff]; intro h; exact h0 (isMode_iff.1 h).1)
    go_enter Tryz.func134, Tryz.ntmps134
    go_wp2
    go_ret
    exact ⟨ret_bool (by rw [HE.out] <;> first | rfl | (simp; omega)), rfl⟩
def codeM (t : List Md) (ms : List Int) : Int := if isModes t = false then 1 else if ms.all (isMode t) = true then 0 else 2
set_option maxHeartbeats 1000000 in
set_option maxRecDepth 100000 in
theorem codeM_any (ao : Option Addr) (n cap : Nat) (cs : List Mc) (mo : Option Addr) (m mc : Nat) (ms : List Int) (w : World) (hr : RdM w ao n cs) (hn : n ≤ 1048576) (hs : smallM cs) (hm : Rd w mo m ms) (hmn : m ≤ 1048576) :
    Calls Tryz.prog 75 #[.slice ao n cap, .slice mo m mc] w fun e w' => e = .returned (.int .i64 (codeM (mds cs) ms)) ∧ Below w.heap.size w w' := by
  have HIS := Lib.hid (isModesI_any ao n cap cs w hr hn hs)
  have HL := Lib.hid ((mds_len cs).trans hr.len)
  rcases hi : isModes (mds cs) with _ | _
  · have HF := Lib.hid (show codeM (mds cs) ms = 1 from by unfold codeM; rw [if_pos hi])
    clear hr hm hs
    go_enter Tryz.func75, Tryz.ntmps75
    go_wp2_with fail
    refine HIS.out.mono ?_
    rintro e w1 ⟨rfl, b1⟩
    rw [hi]
    go_wp2_with fail
    go_ret
    rw [HF.out]
    exact ⟨rfl, b1⟩
  have HF0 := Lib.hid (show ms.all (isMode (mds cs)) = true → codeM (mds cs) ms = 0 from fun h => by unfold codeM; rw [if_neg (by rw [hi]; simp), if_pos h])
  have HF2 := Lib.hid (show ∀ k, k < ms.length → isMode (mds cs) (ms.getD k 0) = false → codeM (mds cs) ms = 2 from fun k hk h => by
    unfold codeM; rw [if_neg (by rw [hi]; simp), if_neg]
    intro h2
    have := List.all_eq_true.1 h2 (ms.getD k 0) (getD_mem' hk)
    rw [h] at this; cases this)
  have HM := Lib.hid hm
  have HML := Lib.hid hm.len
  clear hr hm hs
  go_enter Tryz.func75, Tryz.ntmps75
  go_wp2_with fail
  refine HIS.out.mono ?_
  rintro e w1 ⟨rfl, b1⟩
  rw [hi]
  have HM1 := Lib.hid (HM.out.below b1); have HB1 := Lib.hid b1
  clear b1 HM HIS
  go_wp2_with fail
  go_loopw [12] (fun i wr => ∃ k : Nat, k ≤ m ∧ i = .int .i64 k ∧ wr = w1 ∧ Hid (∀ j, j < k → isMode (mds cs) (ms.getD j 0) = true)) (fun i _ => m - (intOf i).toNat)
  case atStart => exact ⟨0, Nat.zero_le _, rfl, rfl, fun i h => absurd h (by omega)⟩
  case round =>
    obtain ⟨k, hk, rfl, rfl, hall⟩ := hrel
    by_cases hlt : k < m
    · obtain ⟨b, off, rfl, hc⟩ := HM1.out.here (by omega)
      have hck := hc k hlt
      have HF2k := Lib.hid (HF2.out k (by rw [HML.out]; exact hlt))
      have HYES := Lib.hid (show isMode (mds cs) (ms.getD k 0) = true → ∀ j, j < k + 1 → isMode (mds cs) (ms.getD j 0) = true from fun h j hj => by
        rcases Nat.lt_or_ge j k with hl | hl
        · exact hall.out j hl
        · rw [show j = k from by omega]; exact h)
      obtain ⟨x, hx⟩ : ∃ x, x = ms.getD k 0 := ⟨_, rfl⟩
      rw [← hx] at hck HF2k HYES
      clear hc hx hall
      rcases hmo : isMode (mds cs) x with _ | _
      · have HF := Lib.hid (HF2k.out hmo)
        go_wp2_with fail
        refine (isModeOf_any ao n cap x (mds cs) _ HL.out (by omega)).mono ?_
        rintro e w2 ⟨rfl, rfl⟩
        rw [hmo]
        go_wp2_with fail
        go_ret
        rw [HF.out]
        exact ⟨rfl, HB1.out⟩
      · have HF := Lib.hid (HYES.out hmo)
        go_wp2_with fail
        refine (isModeOf_any ao n cap x (mds cs) _ HL.out (by omega)).mono ?_
        rintro e w2 ⟨rfl, rfl⟩
        rw [hmo]
        go_wp2_with fail
        go_roundw
        case rel => exact ⟨k + 1, by omega, by go_num, trivial, HF⟩
        case measure => simp [intOf]; omega
    · have hkn : k = m := by omega
      subst hkn
      have HF := Lib.hid (HF0.out (by
        rw [List.all_eq_true]
        intro x hx
        obtain ⟨j, hj, rfl⟩ := (getD_mem_iff ms x).1 hx
        exact hall.out j (by rw [← HML.out]; exact hj)))
      go_wp2_with fail
      go_ret
      rw [HF.out]
      exact ⟨rfl, HB1.out⟩
theorem codeM_one (t : List Md) (a : Int) : codeM t [a] = if isModes t = false then 1 else if isMode t a = false then 2 else 0 := by
  unfold codeM
  rcases isModes t with _ | _ <;> rcases h : isMode t a with _ | _ <;> simp [h]
theorem rdm_one (T : Nat) (x : Int) (w : World) : Rd (w.alloc (.cells #[.int .i64 x] T)) (some ⟨w.heap.size, 0, none⟩) 1 [x] := rd_one T x w
set_option maxHeartbeats 1000000 in
set_option maxRecDepth 100000 in
theorem cycleSlotsI_any (ao : Option Addr) (n cap : Nat) (cs : List Mc) (m : Int) (w : World) (hr : RdM w ao n cs) (hn : n ≤ 1048576) (hs : smallM cs) :
    Calls Tryz.prog 21 #[.slice ao n cap, .int .i64 m] w fun e w' => e = .returned (.tuple #[.int .i64 (cycleSlots (mds cs) m).1, .int .i64 (cycleSlots (mds cs) m).2]) ∧ Below w.heap.size w w' := by
  have hb1 := (Below.refl w.heap.size w).alloc (Nat.le_refl _) (.cells #[.int .i64 m] 2)
  have HC := Lib.hid (codeM_any ao n cap cs _ 1 1 [m] _ (hr.below hb1) hn hs (rdm_one 2 m w) (by omega))
  have HB := Lib.hid hb1
  have HCO := Lib.hid (codeM_one (mds cs) m)
  have hlen := (mds_len cs).trans hr.len
  have HR := Lib.hid hr; clear hr hb1 hs
  rcases hi : isModes (mds cs) with _ | _
  · have HF := Lib.hid (show cycleSlots (mds cs) m = (0, 1) from by unfold cycleSlots; rw [if_pos hi])
    have HK := Lib.hid (show codeM (mds cs) [m] = 1 from by rw [HCO.out, if_pos hi])
    rw [HF.out]
    go_enter Tryz.func21, Tryz.ntmps21
    go_wp2_with fail
    refine HC.out.mono ?_
    rintro e w1 ⟨rfl, b1⟩
    rw [HK.out]
    go_wp2_with fail
    go_ret2
    exact ⟨rfl, below_two HB.out b1⟩
  rcases hm : isMode (mds cs) m with _ | _
  · have HF := Lib.hid (show cycleSlots (mds cs) m = (0, 2) from by unfold cycleSlots; rw [if_neg (by rw [hi]; simp), if_pos hm])
    have HK := Lib.hid (show codeM (mds cs) [m] = 2 from by rw [HCO.out, if_neg (by rw [hi]; simp), if_pos hm])
    rw [HF.out]
    go_enter Tryz.func21, Tryz.ntmps21
    go_wp2_with fail
    refine HC.out.mono ?_
    rintro e w1 ⟨rfl, b1⟩
    rw [HK.out]
    go_wp2_with fail
    go_ret2
    exact ⟨rfl, below_two HB.out b1⟩
  obtain ⟨hm0, hm1⟩ := isMode_iff.1 hm
  obtain ⟨k, rfl⟩ : ∃ k : Nat, m = k := ⟨m.toNat, by omega⟩
  have hkn : k < n := by omega
  have HF := Lib.hid (show cycleSlots (mds cs) k = ((mcOf cs k).md.rounds * (mcOf cs k).md.slots, 0) from by unfold cycleSlots; rw [if_neg (by rw [hi]; simp), if_neg (by rw [hm]; simp), Int.toNat_natCast, mdOf_mds])
  have HK := Lib.hid (show codeM (mds cs) [(k : Int)] = 0 from by rw [HCO.out, if_neg (by rw [hi]; simp), if_neg (by rw [hm]; simp)])
  have hmd := modes_md hi (mdOf_mem (t := mds cs) (i := k) (by omega))
  rw [mdOf_mds] at hmd
  have hw : IntKind.i64.wrap ((mcOf cs k).md.rounds * (mcOf cs k).md.slots) = (mcOf cs k).md.rounds * (mcOf cs k).md.slots := by
    obtain ⟨⟨h1, h2⟩, ⟨h3, h4⟩, -⟩ := hmd
    have h5 : 0 ≤ (mcOf cs k).md.rounds * (mcOf cs k).md.slots := Int.mul_nonneg (by omega) (by omega)
    have h6 : (mcOf cs k).md.rounds * (mcOf cs k).md.slots ≤ 8 * 16 := Int.mul_le_mul h2 h4 (by omega) (by omega)
    rw [IntKind.wrap_i64]; omega
  clear hmd hm0 hm1 hm hlen HCO
  rw [HF.out]
  clear HF
  go_enter Tryz.func21, Tryz.ntmps21
  go_wp2_with fail
  refine HC.out.mono ?_
  rintro e w1 ⟨rfl, b1⟩
  rw [HK.out]
  have hbb := below_two HB.out b1
  obtain ⟨b, off, rfl, hlt, hx, -⟩ := HR.out.at hkn
  replace hx := hx.below hbb hlt
  obtain ⟨h0, h1, -⟩ := hx
  have HBB := Lib.hid hbb
  clear hbb b1 HB HC HR hlt
  go_wp2_with fail
  go_quiet (fail)
  go_wp2_with fail
  go_ret2
  exact ⟨rfl, below_drewN' HBB.out _⟩
end

section
open Go.RowKit
set_option maxHeartbeats 2000000 in
set_option maxRecDepth 100000 in
theorem isModesS_any (ao : Option Addr) (n cap : Nat) (cs : List Mc) (w : World) (hr : RdM w ao n cs) (hn : n ≤ 1048576) (hs : smallM cs) :
    Calls Tryz.prog 196 #[.slice ao n cap] w fun e w' => e = .returned (.bool (isModes (mds cs))) ∧ Below w.heap.size w w' := by
  have hl := (mds_len cs).trans hr.len
  have HIN := Lib.hid (fun W => l01In_any (n : Int) 1 16 W)
  rcases hrg : inRange 1 16 (n : Int) with _ | _
  · have hF : isModes (mds cs) = false := by
      rw [Bool.eq_false_iff]; intro h
      have := (isModes_iff.1 h).1
      rw [hl] at this
      rw [inR11.2 ⟨by omega, by omega⟩] at hrg
      cases hrg
    have HF := Lib.hid hF; clear hr hl hs hF
    go_enter Tryz.func196, Tryz.ntmps196
    go_wp2_with fail
    refine (HIN.out _).mono ?_
    rintro e w1 ⟨rfl, rfl⟩
    rw [hrg]
    go_wp2_with fail
    go_ret
    rw [HF.out]
    exact ⟨rfl, Below.refl _ _⟩
  have HL := Lib.hid hl
  have HR := Lib.hid hr
  have HS := Lib.hid hs
  have HN := Lib.hid (show 1 ≤ n ∧ n ≤ 16 by have := inR11.1 hrg; omega)
  clear hl hr hs
  go_enter Tryz.func196, Tryz.ntmps196
  go_wp2_with fail
  refine (HIN.out _).mono ?_
  rintro e w1 ⟨rfl, rfl⟩
  rw [hrg]
  clear hrg HIN
  go_wp2_with fail
  go_loopw [3] (fun i wr => ∃ k : Nat, k ≤ n ∧ i = .int .i64 k ∧ Below w.heap.size w wr ∧ Hid (∀ i, i < k → isMd (mds cs).length i (mdOf (mds cs) i) = true)) (fun i _ => n - (intOf i).toNat)
  case atStart => exact ⟨0, Nat.zero_le _, rfl, Below.refl _ _, fun i h => absurd h (by omega)⟩
  case round =>
    obtain ⟨k, hk, rfl, hb, hall⟩ := hrel
    by_cases hlt : k < n
    · obtain ⟨g, off, rfl, hg, hx, hrd⟩ := HR.out.at hlt
      replace hx := hx.below hb hg
      replace hrd := hrd.below hb
      have hkt : k < cs.length := by rw [HR.out.len]; exact hlt
      have hsm := HS.out _ (mcOf_mem hkt)
      have hno : isMd n k (mcOf cs k).md = false → isModes (mds cs) = false := fun h => modes_no (k := k) (by rw [mds_len]; exact hkt) (by rw [HL.out, mdOf_mds]; exact h)
      have hyes : isMd n k (mcOf cs k).md = true → ∀ i, i < k + 1 → isMd (mds cs).length i (mdOf (mds cs) i) = true := fun h => okM_next hall.out (by rw [HL.out, mdOf_mds]; exact h)
      generalize mcOf cs k = c at hx hrd hsm hno hyes
      have HNO := Lib.hid hno; have HYES := Lib.hid hyes; have HB0 := Lib.hid hb
      clear hno hyes hb hkt hall
      obtain ⟨⟨r, s, xs⟩, xo, xc⟩ := c
      obtain ⟨h0, h1, h2⟩ := hx
      have hrr := hrd.rd
      dsimp only at h0 h1 h2 hrr hsm
      have hb1 := (Below.refl wr.heap.size wr).alloc (Nat.le_refl _) (.cells #[.int .i64 r, .int .i64 s, .slice xo xs.length xc] 99)
      have HB1 := Lib.hid (below_two HB0.out hb1)
      have HRR := Lib.hid (hrr.below hb1)
      have HIDX := Lib.hid (l01Rises_any xo xs.length xc xs n _ (hrr.below hb1) (by omega) (by omega) (by omega))
      have HMD := Lib.hid (show isMd n k ⟨r, s, xs⟩ = (inRange 1 8 r && (inRange 1 16 s && (rises (n : Int) xs && !decide ((k : Int) ∈ xs)))) from rfl)
      have hat := McAt.new (T := 99) (c := ⟨⟨r, s, xs⟩, xo, xc⟩) wr
      have HAT := Lib.hid hat
      clear hb1 hrd hrr HB0 hat
      have HSM := Lib.hid hsm; clear hsm
      rcases hc1 : inRange 1 8 r with _ | _
      · have HF := Lib.hid (HNO.out (by rw [HMD.out, hc1]; rfl))
        go_wp2_with fail
        refine (l01In_any r 1 8 _).mono ?_
        rintro e w2 ⟨rfl, rfl⟩
        rw [hc1]
        clear h0 h1 h2
        go_wp2_with fail
        go_ret
        rw [HF.out]
        exact ⟨rfl, HB1.out⟩
      rcases hc2 : inRange 1 16 s with _ | _
      · have HF := Lib.hid (HNO.out (by rw [HMD.out, hc1, hc2]; rfl))
        go_wp2_with fail
        refine (l01In_any r 1 8 _).mono ?_
        rintro e w2 ⟨rfl, rfl⟩
        rw [hc1]
        clear h0 h1 h2
        go_wp2_with fail
        refine (l01In_any s 1 16 _).mono ?_
        rintro e w2 ⟨rfl, rfl⟩
        rw [hc2]
        go_wp2_with fail
        go_ret
        rw [HF.out]
        exact ⟨rfl, HB1.out⟩
      rcases hri : rises (n : Int) xs with _ | _
      · have HF := Lib.hid (HNO.out (by rw [HMD.out, hc1, hc2, hri]; rfl))
        go_wp2_with fail
        refine (l01In_any r 1 8 _).mono ?_
        rintro e w2 ⟨rfl, rfl⟩
        rw [hc1]
        clear h0 h1 h2
        go_wp2_with fail
        refine (l01In_any s 1 16 _).mono ?_
        rintro e w2 ⟨rfl, rfl⟩
        rw [hc2]
        go_wp2_with fail
        refine HIDX.out.mono ?_
        rintro e w2 ⟨rfl, b2⟩
        rw [hri]
        have HB2 := Lib.hid (below_two HB1.out b2)
        go_wp2_with fail
        go_ret
        rw [HF.out]
        exact ⟨rfl, HB2.out⟩
      rcases hco : decide ((k : Int) ∈ xs) with _ | _
      · have HF := Lib.hid (HYES.out (by rw [HMD.out, hc1, hc2, hri, hco]; rfl))
        go_wp2_with fail
        refine (l01In_any r 1 8 _).mono ?_
        rintro e w2 ⟨rfl, rfl⟩
        rw [hc1]
        clear h0 h1 h2
        go_wp2_with fail
        refine (l01In_any s 1 16 _).mono ?_
        rintro e w2 ⟨rfl, rfl⟩
        rw [hc2]
        go_wp2_with fail
        refine HIDX.out.mono ?_
        rintro e w2 ⟨rfl, b2⟩
        rw [hri]
        obtain ⟨-, -, d2⟩ := (HAT.out.below b2 HAT.out.lt).in_
        have HB2 := Lib.hid (below_two HB1.out b2)
        have HR2 := Lib.hid (HRR.out.below b2)
        clear b2
        go_wp2_with fail
        refine (l01Has_any _ _ _ xs k _ HR2.out (by have := HSM.out; omega)).mono ?_
        rintro e w3 ⟨rfl, rfl⟩
        rw [hco]
        go_wp2_with fail
        go_roundw
        case rel => exact ⟨k + 1, by omega, by go_num, HB2.out, HF⟩
        case measure => simp [intOf]; omega
      · have HF := Lib.hid (HNO.out (by rw [HMD.out, hc1, hc2, hri, hco]; rfl))
        go_wp2_with fail
        refine (l01In_any r 1 8 _).mono ?_
        rintro e w2 ⟨rfl, rfl⟩
        rw [hc1]
        clear h0 h1 h2
        go_wp2_with fail
        refine (l01In_any s 1 16 _).mono ?_
        rintro e w2 ⟨rfl, rfl⟩
        rw [hc2]
        go_wp2_with fail
        refine HIDX.out.mono ?_
        rintro e w2 ⟨rfl, b2⟩
        rw [hri]
        obtain ⟨-, -, d2⟩ := (HAT.out.below b2 HAT.out.lt).in_
        have HB2 := Lib.hid (below_two HB1.out b2)
        have HR2 := Lib.hid (HRR.out.below b2)
        clear b2
        go_wp2_with fail
        refine (l01Has_any _ _ _ xs k _ HR2.out (by have := HSM.out; omega)).mono ?_
        rintro e w3 ⟨rfl, rfl⟩
        rw [hco]
        go_wp2_with fail
        go_ret
        rw [HF.out]
        exact ⟨rfl, HB2.out⟩
    · have hkn : k = n := by omega
      subst hkn
      have HF := Lib.hid (show isModes (mds cs) = true from isModes_iff.2 ⟨by rw [HL.out]; exact HN.out, by rw [HL.out]; rw [HL.out] at hall; exact hall.out⟩)
      have HB := Lib.hid hb; clear hb hall
      go_wp2_with fail
      go_ret
      rw [HF.out]
      exact ⟨rfl, HB.out⟩
theorem l11Mode_any (ao : Option Addr) (n cap : Nat) (m : Int) (t : List Md) (w : World) (hl : t.length = n) (hn : n ≤ 1048576) :
    Calls Tryz.prog 146 #[.slice ao n cap, .int .i64 m] w fun e w' => e = .returned (.bool (isMode t m)) ∧ w = w' := by
  have HE := Lib.hid (show inRange 0 ((n : Int) - 1) m = isMode t m from by unfold isMode; rw [hl])
  have hw : IntKind.i64.wrap ((n : Int) - 1) = (n : Int) - 1 := by rw [IntKind.wrap_i64]; omega
  go_enter Tryz.func146, Tryz.ntmps146
  go_wp2_with fail
  refine (l01In_any m 0 ((n : Int) - 1) _).mono ?_
  rintro e w1 ⟨rfl, rfl⟩
  rw [HE.out]
  go_wp2_with fail
  go_ret
  exact ⟨rfl, rfl⟩
end
end Go.Proofs.YthihjhidjnadaaaGreat
