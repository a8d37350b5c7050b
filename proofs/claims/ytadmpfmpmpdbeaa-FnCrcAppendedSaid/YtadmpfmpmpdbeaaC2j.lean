/-
  CrcTable on the program's side; AppendCrc on both sides.
-/
import Derived.Test.YtadmpfmpmpdbeaaC2i
namespace Go.Proofs.Ytadmpfmpmpdbeaa
open Go.RowKit

/-- slices.Clone of a slice that is not nil. -/
theorem clone_any (ad : Addr) (n cap : Nat) (xs : List Int) (w : World) (hr : Rd w (some ad) n xs) (hn : n ≤ 1048576) :
    Calls Try.prog 62 #[.slice (some ad) n cap] w (Makes 2 w xs) := by
  have HR := Lib.hid hr; clear hr
  have hrun : (Sem.run Try.prog (binOp BinOp.eql 26 (Value.slice (some ad) n cap) (Value.slice none 0 0)) w) = .ok (.bool false) w := by kernel_rfl
  go_enter Try.func62, Try.ntmps62
  go_wp2_with (at_builtin; refine append_list _ rfl (.tmp 5) (.tmp 6) rfl w.heap.size Try.underlying26 info64 _ [] rfl (Own.of_alloc_nil (Nat.le_refl _)) _ _ _ xs rfl (HR.out.below ((Below.refl _ _).alloc (Nat.le_refl _) _)) (by simp; omega) (by simp) ?_; intro v1 w1 o1 b1)
  go_ret
  exact ⟨_, rfl, o1, ((Below.refl _ _).alloc (Nat.le_refl _) _).trans b1⟩

theorem CycTo.rd {W : Nat} {g : BitVec W} {w : World} {p : Nat} (h : CycTo g w p 256) : Rd w (some ⟨p, 2, none⟩) 256 ((List.range 256).map (tabOf g)) := by
  rw [← tabTo_all]
  refine ⟨tabTo_len _, fun _ => ⟨p, 2, rfl, fun i hi => ?_⟩⟩
  rw [cell_of_row w p (2 + i) _ _ (0, 0) h, cycCells_at _ _ _ _ (by rw [tabTo_len]; exact hi)]

set_option maxRecDepth 100000 in
theorem crcTable_any (wd p : Int) (w : World) :
    Calls Try.prog 20 #[.agg #[.int .i64 wd, .int .i64 p]] w (Makes2 2 w (crcTable wd p).1 (crcTable wd p).2) := by
  have hb0 : Below w.heap.size w (w.alloc (.cells #[.int .i64 wd, .int .i64 p] 25)) := (Below.refl _ _).alloc (Nat.le_refl _) _
  rcases hI : isCrc wd p with _ | _
  · rw [ct_1 hI]
    have HI := Lib.hid hI; clear hI
    have HB := Lib.hid hb0; clear hb0
    go_enter Try.func20, Try.ntmps20
    go_wp2_with fail
    refine (isCrc_any _ _ _).mono ?_
    rintro e w1 ⟨rfl, b1⟩
    rw [HI.out]
    go_wp2
    go_ret2
    exact ⟨_, rfl, Own.nil_, below_two HB.out b1⟩
  · rw [ct_0 hI]
    have hsc := struct_cells (w := w) wd p 25
    have hI' := hI
    obtain ⟨W, g, rfl, h1, h2, rfl, -⟩ := isCrc_get hI'
    clear hI'
    rw [crcTab_eq]
    obtain ⟨TT, hTT⟩ : ∃ TT, TT = (List.range 256).map (tabOf g) := ⟨_, rfl⟩
    rw [← hTT]
    have HTT := Lib.hid hTT; clear hTT
    have HI := Lib.hid hI; clear hI
    have HB := Lib.hid hb0; clear hb0
    have HS := Lib.hid hsc; clear hsc
    go_enter Try.func20, Try.ntmps20
    go_wp2_with fail
    refine (isCrc_any _ _ _).mono ?_
    rintro e w1 ⟨rfl, b1⟩
    rw [HI.out]
    have b2 := below_two HB.out b1
    have hc0 := (b1.cell (p := ⟨w.heap.size, 0, none⟩) (World.block_lt_of_cell? _ _ HS.out.1)).trans HS.out.1
    have hc1 := (b1.cell (p := ⟨w.heap.size, 1, none⟩) (World.block_lt_of_cell? _ _ HS.out.2)).trans HS.out.2
    go_wp2_with fail
    refine (newCode_any W g _ h1 h2).mono ?_
    rintro e w2 ⟨p2, rfl, hcy, -, b3⟩
    have b4 := below_two b2 b3
    have hrd := hcy.rd
    rw [← HTT.out] at hrd
    have HRD := Lib.hid hrd; clear hrd hcy
    go_wp2_with fail
    refine (clone_any _ _ _ TT _ HRD.out (by omega)).mono ?_
    rintro e w3 m3
    obtain ⟨v3, rfl, o3, b5⟩ := m3
    go_wp2
    go_ret2
    exact ⟨_, rfl, o3.more b4.size, below_two b4 b5⟩

theorem ac_err {wd p s : Int} {xs : List Int} (h : (crcOfBits wd p s xs).2 ≠ 0) : appendCrc wd p s xs = ([], (crcOfBits wd p s xs).2) := by unfold appendCrc; rw [if_pos h]
theorem ac_3 {wd p s : Int} {xs : List Int} (h : (crcOfBits wd p s xs).2 = 0) (h2 : 8192 < (xs.length : Int) + wd) : appendCrc wd p s xs = ([], 3) := by unfold appendCrc; rw [if_neg (by simp [h]), if_pos h2]
theorem ac_0 {wd p s : Int} {xs : List Int} (h : (crcOfBits wd p s xs).2 = 0) (h2 : ¬ 8192 < (xs.length : Int) + wd) : appendCrc wd p s xs = (xs ++ bitsOf (crcOfBits wd p s xs).1 wd.toNat, 0) := by unfold appendCrc; rw [if_neg (by simp [h]), if_neg h2]
/-- A check number without an error: the code, the seed and the list are valid. -/
theorem cob_get {wd p s : Int} {xs : List Int} (h : (crcOfBits wd p s xs).2 = 0) : ∃ (W : Nat) (g r : BitVec W), wd = (W : Int) ∧ 3 ≤ W ∧ W ≤ 24 ∧ p = (g.toNat : Int) ∧ g.getLsbD 0 = true ∧ s = (r.toNat : Int) ∧ isBits xs = true ∧ (crcOfBits wd p s xs).1 = regOf g r xs := by
  by_cases hc : crcCode wd p s = 0
  · rcases hb : isBits xs with _ | _
    · rw [cob_3 hc hb] at h; simp at h
    · have e := cob_0 hc hb
      obtain ⟨W, g, r, rfl, h1, h2, rfl, h3, rfl⟩ := crcCode_zero hc
      exact ⟨W, g, r, rfl, h1, h2, rfl, h3, rfl, rfl, by rw [e, crcRaw_eq]⟩
  · rw [cob_code hc] at h; exact absurd h hc
theorem appendCrc_len (wd p s : Int) (xs : List Int) : (appendCrc wd p s xs).1.length ≤ 8192 := by
  by_cases h : (crcOfBits wd p s xs).2 = 0
  · by_cases h2 : 8192 < (xs.length : Int) + wd
    · rw [ac_3 h h2]; simp
    · obtain ⟨W, g, r, rfl, h1, -⟩ := cob_get h
      rw [ac_0 h h2]
      simp only [List.length_append, bitsOf_len, Int.toNat_natCast]; omega
  · rw [ac_err h]; simp

theorem sAppendCrc_any (wd p s : Int) (ao : Option Addr) (cap : Nat) (xs : List Int) (w : World) (hr : Rd w ao xs.length xs) (hn : xs.length ≤ 1048576) :
    Calls Try.prog 38 #[.agg #[.int .i64 wd, .int .i64 p], .int .i64 s, .slice ao xs.length cap] w (Makes2 2 w (appendCrc wd p s xs).1 (appendCrc wd p s xs).2) := by
  have hb0 : Below w.heap.size w (w.alloc (.cells #[.int .i64 wd, .int .i64 p] 25)) := (Below.refl _ _).alloc (Nat.le_refl _) _
  have hsc := struct_cells (w := w) wd p 25
  have HB := Lib.hid hb0; clear hb0
  have HR := Lib.hid hr; clear hr
  have HS := Lib.hid hsc; clear hsc
  by_cases h : (crcOfBits wd p s xs).2 = 0
  · have hg := cob_get h
    by_cases h3 : 8192 < (xs.length : Int) + wd
    · rw [ac_3 h h3]
      obtain ⟨W, g, r, rfl, h1, h2, -⟩ := hg
      obtain ⟨x, hx⟩ : ∃ x, x = (crcOfBits W p s xs).1 := ⟨_, rfl⟩
      have HX := Lib.hid hx; clear hx
      have H := Lib.hid h; clear h
      go_enter Try.func38, Try.ntmps38
      go_wp2_with fail
      refine (sCrcOfBits_any _ _ _ _ _ xs _ (HR.out.below HB.out) hn).mono ?_
      rintro e w1 ⟨rfl, b1⟩
      rw [H.out, ← HX.out]
      have b2 := below_two HB.out b1
      have hc0 := (b1.cell (p := ⟨w.heap.size, 0, none⟩) (World.block_lt_of_cell? _ _ HS.out.1)).trans HS.out.1
      go_wp2
      go_ret2
      exact ⟨_, rfl, Own.nil_, b2⟩
    · rw [ac_0 h h3]
      obtain ⟨W, g, r, rfl, h1, h2, -⟩ := hg
      rw [Int.toNat_natCast]
      obtain ⟨x, hx⟩ : ∃ x, x = (crcOfBits W p s xs).1 := ⟨_, rfl⟩
      rw [← hx]
      have HX := Lib.hid hx; clear hx
      have H := Lib.hid h; clear h
      go_enter Try.func38, Try.ntmps38
      go_wp2_with fail
      refine (sCrcOfBits_any _ _ _ _ _ xs _ (HR.out.below HB.out) hn).mono ?_
      rintro e w1 ⟨rfl, b1⟩
      rw [H.out, ← HX.out]
      have b2 := below_two HB.out b1
      have hc0 := (b1.cell (p := ⟨w.heap.size, 0, none⟩) (World.block_lt_of_cell? _ _ HS.out.1)).trans HS.out.1
      go_wp2_with fail
      refine (l01Append_any _ _ _ xs _ _ _ (HR.out.below b2) hn (by omega)).mono ?_
      rintro e w3 m3
      obtain ⟨v3, rfl, o3, b3⟩ := m3
      go_wp2
      go_ret2
      exact ⟨_, rfl, o3.more b2.size, below_two b2 b3⟩
  · rw [ac_err h]
    have t1 : ((crcOfBits wd p s xs).2 == 0) = false := by simpa using h
    have t2 : ((crcOfBits wd p s xs).2 != 0) = true := by simpa using h
    obtain ⟨x, hx⟩ : ∃ x, x = (crcOfBits wd p s xs).1 := ⟨_, rfl⟩
    obtain ⟨q, hq⟩ : ∃ q, q = (crcOfBits wd p s xs).2 := ⟨_, rfl⟩
    rw [← hq] at t1 t2 ⊢
    have HX := Lib.hid hx; clear hx
    have HQ := Lib.hid hq; clear hq h
    go_enter Try.func38, Try.ntmps38
    go_wp2_with fail
    refine (sCrcOfBits_any _ _ _ _ _ xs _ (HR.out.below HB.out) hn).mono ?_
    rintro e w1 ⟨rfl, b1⟩
    rw [← HQ.out, ← HX.out]
    have b2 := below_two HB.out b1
    go_wp2
    go_ret2
    exact ⟨_, rfl, Own.nil_, b2⟩
theorem appendCrc_any (wd p s : Int) (ao : Option Addr) (cap : Nat) (xs : List Int) (w : World) (hr : Rd w ao xs.length xs) (hn : xs.length ≤ 1048576) :
    Calls Try.prog 37 #[.agg #[.int .i64 wd, .int .i64 p], .int .i64 s, .slice ao xs.length cap] w (Makes2 2 w (appendCrc wd p s xs).1 (appendCrc wd p s xs).2) := by
  have hb0 : Below w.heap.size w (w.alloc (.cells #[.int .i64 wd, .int .i64 p] 25)) := (Below.refl _ _).alloc (Nat.le_refl _) _
  have hsc := struct_cells (w := w) wd p 25
  have HB := Lib.hid hb0; clear hb0
  have HR := Lib.hid hr; clear hr
  have HS := Lib.hid hsc; clear hsc
  by_cases h : (crcOfBits wd p s xs).2 = 0
  · have hap : appendNumber xs (crcOfBits wd p s xs).1 wd = appendCrc wd p s xs := by
      obtain ⟨W, g, r, rfl, h1, h2, -, -, -, hb, hv⟩ := cob_get h
      have hl := reg_pow (fbs g r (bl xs))
      have hv2 : (0 : Int) ≤ (crcOfBits (W : Int) p s xs).1 ∧ (crcOfBits (W : Int) p s xs).1 < 2 ^ (W : Int).toNat := by
        rw [hv, Int.toNat_natCast]; unfold regOf; omega
      by_cases h3 : 8192 < (xs.length : Int) + (W : Int)
      · rw [ac_3 h h3, an_3 hb ⟨by omega, by omega⟩ hv2 h3]
      · rw [ac_0 h h3, an_0 hb ⟨by omega, by omega⟩ hv2 h3]
    obtain ⟨x, hx⟩ : ∃ x, x = (crcOfBits wd p s xs).1 := ⟨_, rfl⟩
    rw [← hx] at hap
    have HX := Lib.hid hx; clear hx
    have H := Lib.hid h; clear h
    obtain ⟨r0, r1, hF⟩ : ∃ r0 r1, appendCrc wd p s xs = (r0, r1) := ⟨_, _, rfl⟩
    rw [hF] at hap ⊢
    have HA := Lib.hid hap; clear hap hF
    go_enter Try.func37, Try.ntmps37
    go_wp2_with fail
    refine (crcOfBits_any _ _ _ _ _ xs _ (HR.out.below HB.out) hn).mono ?_
    rintro e w1 ⟨rfl, b1⟩
    rw [H.out, ← HX.out]
    have b2 := below_two HB.out b1
    have hc0 := (b1.cell (p := ⟨w.heap.size, 0, none⟩) (World.block_lt_of_cell? _ _ HS.out.1)).trans HS.out.1
    go_wp2_with fail
    refine (appendNumber_any _ _ xs _ _ _ (HR.out.below b2) hn).mono ?_
    rintro e w3 m3
    rw [HA.out] at m3
    change Makes2 2 _ r0 r1 _ _ at m3
    obtain ⟨v3, rfl, o3, b3⟩ := m3
    go_wp2
    go_ret2
    exact ⟨_, rfl, o3.more b2.size, below_two b2 b3⟩
  · rw [ac_err h]
    have t1 : ((crcOfBits wd p s xs).2 == 0) = false := by simpa using h
    have t2 : ((crcOfBits wd p s xs).2 != 0) = true := by simpa using h
    obtain ⟨x, hx⟩ : ∃ x, x = (crcOfBits wd p s xs).1 := ⟨_, rfl⟩
    obtain ⟨q, hq⟩ : ∃ q, q = (crcOfBits wd p s xs).2 := ⟨_, rfl⟩
    rw [← hq] at t1 t2 ⊢
    have HX := Lib.hid hx; clear hx
    have HQ := Lib.hid hq; clear hq h
    go_enter Try.func37, Try.ntmps37
    go_wp2_with fail
    refine (crcOfBits_any _ _ _ _ _ xs _ (HR.out.below HB.out) hn).mono ?_
    rintro e w1 ⟨rfl, b1⟩
    rw [← HQ.out, ← HX.out]
    have b2 := below_two HB.out b1
    go_wp2
    go_ret2
    exact ⟨_, rfl, Own.nil_, b2⟩
end Go.Proofs.Ytadmpfmpmpdbeaa
