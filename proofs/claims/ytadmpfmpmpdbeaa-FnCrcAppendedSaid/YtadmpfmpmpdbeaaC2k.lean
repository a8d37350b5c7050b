/-
  HasCrc on both sides.
-/
import Derived.Test.YtadmpfmpmpdbeaaC2j
namespace Go.Proofs.Ytadmpfmpmpdbeaa
open Go.RowKit

theorem hc_code {wd p s : Int} {xs : List Int} (h : crcCode wd p s ≠ 0) : hasCrc wd p s xs = false := by unfold hasCrc; rw [decide_eq_false h]; rfl
theorem hc_bits {wd p s : Int} {xs : List Int} (h : isBits xs = false) : hasCrc wd p s xs = false := by unfold hasCrc; rw [h]; simp
theorem hc_short {wd p s : Int} {xs : List Int} (h : ¬ wd ≤ (xs.length : Int)) : hasCrc wd p s xs = false := by unfold hasCrc; rw [decide_eq_false h]; simp
theorem hc_raw {wd p s : Int} {xs : List Int} (h : crcCode wd p s = 0) (hb : isBits xs = true) (hl : wd ≤ (xs.length : Int)) : hasCrc wd p s xs = decide (crcRaw wd p s xs = 0) := by
  unfold hasCrc; rw [decide_eq_true h, hb, decide_eq_true hl]; simp
theorem hc_err {wd p s : Int} {xs : List Int} (h : crcErr wd p s (isBits xs) ≠ 0) : hasCrc wd p s xs = false := by
  by_cases h1 : crcCode wd p s = 0
  · rcases hb : isBits xs with _ | _
    · exact hc_bits hb
    · rw [hb, crcErr_0 h1] at h; exact absurd rfl h
  · exact hc_code h1
theorem reg_split {W : Nat} (g r : BitVec W) (hg : g.getLsbD 0 = true) (xs : List Int) (m : Nat) (hl : xs.length = m + W) (hb : ∀ x ∈ xs, 0 ≤ x ∧ x ≤ 1) : (regOf g r (xs.take m) == numOf (xs.drop m)) = decide (regOf g r xs = 0) := by
  have h := fbs_zero_iff (r := fbs g r (bl (xs.take m))) hg (xs.drop m) (by rw [List.length_drop]; omega) (fun x hx => hb x (List.mem_of_mem_drop hx))
  rw [← fbs_append, ← bl_append, List.take_append_drop] at h
  rw [beq_dec, decide_eq_decide]
  unfold regOf
  rw [← h]
  constructor
  · intro h; rw [h]; simp
  · intro h
    apply BitVec.eq_of_toNat_eq
    rw [show (0#W).toNat = 0 from by simp]; omega

theorem sHasCrc_any (wd p s : Int) (ao : Option Addr) (cap : Nat) (xs : List Int) (w : World) (hr : Rd w ao xs.length xs) (hn : xs.length ≤ 1048576) :
    Calls Try.prog 41 #[.agg #[.int .i64 wd, .int .i64 p], .int .i64 s, .slice ao xs.length cap] w fun e w' => e = .returned (.bool (hasCrc wd p s xs)) ∧ Below w.heap.size w w' := by
  have hb0 : Below w.heap.size w (w.alloc (.cells #[.int .i64 wd, .int .i64 p] 25)) := (Below.refl _ _).alloc (Nat.le_refl _) _
  have hsc := struct_cells (w := w) wd p 25
  have HB := Lib.hid hb0; clear hb0
  have HR := Lib.hid hr; clear hr
  have HS := Lib.hid hsc; clear hsc
  by_cases hc : crcCode wd p s = 0
  · rcases hbt : isBits xs with _ | _
    · rw [hc_bits hbt]
      have HC := Lib.hid hc; clear hc
      have HI := Lib.hid hbt; clear hbt
      go_enter Try.func41, Try.ntmps41
      go_wp2_with fail
      refine (code_any _ _ _ _).mono ?_
      rintro e w1 ⟨rfl, b1⟩
      rw [HC.out]
      have b2 := below_two HB.out b1
      go_wp2_with fail
      refine (sIsBits_any _ _ _ _ _ (HR.out.below b2) (by omega)).mono ?_
      rintro e w' ⟨rfl, rfl⟩
      rw [HI.out]
      go_wp2
      go_ret
      exact ⟨rfl, b2⟩
    · have hc2 := hc
      obtain ⟨W, g, r, rfl, h1, h2, rfl, h3, rfl⟩ := crcCode_zero hc2
      clear hc2
      have hbits := (isBits_iff.1 hbt).2
      have HZ := Lib.hid hbits; clear hbits
      by_cases hl : (W : Int) ≤ (xs.length : Int)
      · rw [hc_raw hc hbt hl, crcRaw_eq, ← beq_dec]
        have HC := Lib.hid hc; clear hc
        have HI := Lib.hid hbt; clear hbt
        go_enter Try.func41, Try.ntmps41
        go_wp2_with fail
        refine (code_any _ _ _ _).mono ?_
        rintro e w1 ⟨rfl, b1⟩
        rw [HC.out]
        have b2 := below_two HB.out b1
        have hc0 := (b1.cell (p := ⟨w.heap.size, 0, none⟩) (World.block_lt_of_cell? _ _ HS.out.1)).trans HS.out.1
        have hc1 := (b1.cell (p := ⟨w.heap.size, 1, none⟩) (World.block_lt_of_cell? _ _ HS.out.2)).trans HS.out.2
        go_wp2_with fail
        refine (sIsBits_any _ _ _ _ _ (HR.out.below b2) (by omega)).mono ?_
        rintro e w' ⟨rfl, rfl⟩
        rw [HI.out]
        go_wp2_with fail
        refine (feed_any W g r _ _ _ xs _ h1 h2 (HR.out.below b2) hn HZ.out).mono ?_
        rintro e w2 ⟨rfl, b3⟩
        go_wp2
        go_ret
        exact ⟨rfl, below_two b2 b3⟩
      · rw [hc_short hl]
        have HC := Lib.hid hc; clear hc
        have HI := Lib.hid hbt; clear hbt
        go_enter Try.func41, Try.ntmps41
        go_wp2_with fail
        refine (code_any _ _ _ _).mono ?_
        rintro e w1 ⟨rfl, b1⟩
        rw [HC.out]
        have b2 := below_two HB.out b1
        have hc0 := (b1.cell (p := ⟨w.heap.size, 0, none⟩) (World.block_lt_of_cell? _ _ HS.out.1)).trans HS.out.1
        go_wp2_with fail
        refine (sIsBits_any _ _ _ _ _ (HR.out.below b2) (by omega)).mono ?_
        rintro e w' ⟨rfl, rfl⟩
        rw [HI.out]
        go_wp2
        go_ret
        exact ⟨rfl, b2⟩
  · rw [hc_code hc]
    have t1 : (crcCode wd p s == 0) = false := by simpa using hc
    have t2 : (crcCode wd p s != 0) = true := by simpa using hc
    obtain ⟨q, hq⟩ : ∃ q, q = crcCode wd p s := ⟨_, rfl⟩
    rw [← hq] at t1 t2
    have HQ := Lib.hid hq; clear hq hc
    go_enter Try.func41, Try.ntmps41
    go_wp2_with fail
    refine (code_any _ _ _ _).mono ?_
    rintro e w1 ⟨rfl, b1⟩
    rw [← HQ.out]
    have b2 := below_two HB.out b1
    go_wp2
    go_ret
    exact ⟨rfl, b2⟩

theorem hasCrc_any (wd p s : Int) (ao : Option Addr) (cap : Nat) (xs : List Int) (w : World) (hr : Rd w ao xs.length xs) (hn : xs.length ≤ 1048576) (hcap : xs.length ≤ cap) (hcap2 : cap ≤ 9223372036854775807) :
    Calls Try.prog 40 #[.agg #[.int .i64 wd, .int .i64 p], .int .i64 s, .slice ao xs.length cap] w fun e w' => e = .returned (.bool (hasCrc wd p s xs)) ∧ Below w.heap.size w w' := by
  have hb0 : Below w.heap.size w (w.alloc (.cells #[.int .i64 wd, .int .i64 p] 25)) := (Below.refl _ _).alloc (Nat.le_refl _) _
  have hsc := struct_cells (w := w) wd p 25
  have HB := Lib.hid hb0.drew; clear hb0
  have HR := Lib.hid hr; clear hr
  by_cases he : crcErr wd p s (isBits xs) = 0
  · obtain ⟨hc, hbt⟩ := crcErr_ok he
    have hc2 := hc
    obtain ⟨W, g, r, rfl, h1, h2, rfl, h3, rfl⟩ := crcCode_zero hc2
    clear hc2
    have hbits := (isBits_iff.1 hbt).2
    have HZ := Lib.hid hbits; clear hbits
    have HE := Lib.hid he; clear he
    by_cases hl : (W : Int) ≤ (xs.length : Int)
    · obtain ⟨m, hm⟩ : ∃ m, xs.length = m + W := ⟨xs.length - W, by omega⟩
      rw [hc_raw hc hbt hl, crcRaw_eq, ← reg_split g r h3 xs m hm HZ.out]
      clear hbt hc
      obtain ⟨b, off, rfl, hblk⟩ := HR.out.block (by omega)
      have hr1 : Rd w (some ⟨b, off, none⟩) m (xs.take m) := by
        have := HR.out.slice (a := 0) (k := m) (by omega)
        simpa [Addr.add_lit] using this
      have hr2 : Rd w (some ⟨b, off + m, none⟩) W (xs.drop m) := by
        have := HR.out.slice (a := m) (k := W) (by omega)
        rw [List.take_of_length_le (by rw [List.length_drop]; omega)] at this
        simpa [Addr.add_lit] using this
      have HR1 := Lib.hid hr1; clear hr1
      have HR2 := Lib.hid hr2; clear hr2
      have hz1 : ∀ x ∈ xs.take m, 0 ≤ x ∧ x ≤ 1 := fun x hx => HZ.out x (List.mem_of_mem_take hx)
      have hz2 : ∀ x ∈ xs.drop m, 0 ≤ x ∧ x ≤ 1 := fun x hx => HZ.out x (List.mem_of_mem_drop hx)
      have HZ1 := Lib.hid hz1; clear hz1
      have HZ2 := Lib.hid hz2; clear hz2
      obtain ⟨n, hnn⟩ : ∃ n, n = xs.length := ⟨_, rfl⟩
      rw [← hnn] at hm hl hn hcap ⊢
      obtain ⟨ys, hys⟩ : ∃ ys, ys = xs.take m := ⟨_, rfl⟩
      obtain ⟨zs, hzs⟩ : ∃ zs, zs = xs.drop m := ⟨_, rfl⟩
      rw [← hys] at HR1 HZ1 ⊢
      rw [← hzs] at HR2 HZ2 ⊢
      rw [← hnn] at HR
      have hst : (n : Int) - (W : Int) = (m : Int) := by omega
      have hm0 : (0 : Int) ≤ (m : Int) := by omega
      have hm1 : (m : Int) ≤ (n : Int) := by omega
      have hm2 : (m : Int) ≤ (cap : Int) := by omega
      have hm3 : (n : Int) ≤ (cap : Int) := by omega
      have hm4 : ¬ cap = m := by omega
      have hnm : n - m = W := by omega
      have HNM := Lib.hid hnm; clear hnm hys hzs
      have HN := Lib.hid hnn; clear hnn
      have HM := Lib.hid hm; clear hm
      have HS := Lib.hid hsc; clear hsc
      go_enter Try.func40, Try.ntmps40
      go_wp2
      generalize World.alloc w (.cells #[.int .i64 W, .int .i64 g.toNat] 25) = w0 at HS HB ⊢
      have hsc := HS.out
      obtain ⟨hsc0, hsc1⟩ := hsc
      go_still_tail 4, (by kernel_rfl)
      still_call (still_w (isBits_any _ _ _ xs _ (HR.out.below HB.out) (by omega)))
      refine wpStill_nil ?_
      change wpList _ _ _ _ _ w0.drew
      go_wp2_with fail
      refine (crcErr_any _ _ _ _ _).mono ?_
      rintro e w1 ⟨rfl, b1⟩
      rw [HE.out]
      have b2 := below_two HB.out b1
      have hc0 := (b1.cell (p := ⟨w.heap.size, 0, none⟩) (World.block_lt_of_cell? _ _ hsc0)).trans hsc0
      have hc1 := (b1.cell (p := ⟨w.heap.size, 1, none⟩) (World.block_lt_of_cell? _ _ hsc1)).trans hsc1
      go_wp2
      have hlt := World.block_lt_of_cell? _ _ hc0
      have hS : ∀ w', Below w1.heap.size w1 w' → w'.cell? ⟨w.heap.size, 0, none⟩ = some (.int .i64 W) ∧ w'.cell? ⟨w.heap.size, 1, none⟩ = some (.int .i64 g.toNat) := fun w' hb =>
        ⟨(hb.cell (p := ⟨w.heap.size, 0, none⟩) hlt).trans hc0, (hb.cell (p := ⟨w.heap.size, 1, none⟩) hlt).trans hc1⟩
      have HSS := Lib.hid hS; clear hS hc0 hc1
      have hd1 : Below w1.heap.size w1 w1.drew := (Below.refl _ _).drew
      have HD1 := Lib.hid hd1; clear hd1
      have HB2 := Lib.hid b2; clear b2
      go_region_held3 (fun w' => w'.cell? ⟨w.heap.size, 0, none⟩ = some (.int .i64 W) ∧ w'.cell? ⟨w.heap.size, 1, none⟩ = some (.int .i64 g.toNat))
        (first | exact HSS.out _ HD1.out | exact HSS.out _ B3.out)
        (first
          | (go_at_call 56; (refine (newCode_any W g _ h1 h2).mono ?_); rintro e w2 ⟨p2, rfl, hcy, -, b3⟩; have B3 := Lib.hid (below_two HD1.out b3); have HC := Lib.hid hcy.code; clear hcy b3)
          | (go_at_call 67; (refine (afterBits_any p2 W g r _ m _ ys _ h1 h2 HC.out (HR1.out.below (below_two HB2.out B3.out)) (by omega) HZ1.out).mono ?_); rintro e w' ⟨rfl, rfl⟩)
          | (go_at_call 73; rw [HNM.out]; (refine (numberOf_any _ W _ zs _ (HR2.out.below (below_two HB2.out B3.out)) (by omega) HZ2.out).mono ?_); rintro e w' ⟨rfl, rfl⟩)
          | (go_at_call 73; rw [HNM.out]; (refine (numberOf_any _ W _ zs _ (HR2.out.below (below_two HB2.out HD1.out)) (by omega) HZ2.out).mono ?_); rintro e w' ⟨rfl, rfl⟩))
      all_goals go_wp2
      all_goals go_ret
      all_goals exact ⟨rfl, below_two HB2.out B3.out⟩
    · rw [hc_short hl]
      clear hbt hc
      have HS := Lib.hid hsc; clear hsc
      go_enter Try.func40, Try.ntmps40
      go_wp2
      generalize World.alloc w (.cells #[.int .i64 W, .int .i64 g.toNat] 25) = w0 at HS HB ⊢
      have hsc := HS.out
      obtain ⟨hsc0, hsc1⟩ := hsc
      go_still_tail 4, (by kernel_rfl)
      still_call (still_w (isBits_any _ _ _ xs _ (HR.out.below HB.out) (by omega)))
      refine wpStill_nil ?_
      change wpList _ _ _ _ _ w0.drew
      go_wp2_with fail
      refine (crcErr_any _ _ _ _ _).mono ?_
      rintro e w1 ⟨rfl, b1⟩
      rw [HE.out]
      have b2 := below_two HB.out b1
      go_wp2
      go_ret
      exact ⟨rfl, b2⟩
  · rw [hc_err he]
    have t2 : (crcErr wd p s (isBits xs) != 0) = true := by simpa using he
    obtain ⟨q, hq⟩ : ∃ q, q = crcErr wd p s (isBits xs) := ⟨_, rfl⟩
    rw [← hq] at t2
    have HQ := Lib.hid hq; clear hq he
    have HS := Lib.hid hsc; clear hsc
    go_enter Try.func40, Try.ntmps40
    go_wp2
    generalize World.alloc w (.cells #[.int .i64 wd, .int .i64 p] 25) = w0 at HS HB ⊢
    have hsc := HS.out
    obtain ⟨hsc0, hsc1⟩ := hsc
    go_still_tail 4, (by kernel_rfl)
    still_call (still_w (isBits_any _ _ _ xs _ (HR.out.below HB.out) (by omega)))
    refine wpStill_nil ?_
    change wpList _ _ _ _ _ w0.drew
    go_wp2_with fail
    refine (crcErr_any _ _ _ _ _).mono ?_
    rintro e w1 ⟨rfl, b1⟩
    rw [← HQ.out]
    have b2 := below_two HB.out b1
    go_wp2
    go_ret
    exact ⟨rfl, b2⟩
end Go.Proofs.Ytadmpfmpmpdbeaa
