/-
  spec.DrawHasCrc; a list with its check number.
-/
import Derived.Test.YtadmpfmpmpdbeaaC2r
namespace Go.Proofs.Ytadmpfmpmpdbeaa
open Go.RowKit

/-- A list with its check number has it, and leaves the register 0. -/
theorem appended_round {wd p s : Int} {xs out : List Int} (h : appendCrc wd p s xs = (out, 0)) : ∃ W : Nat, wd = (W : Int) ∧ 3 ≤ W ∧ W ≤ 24 ∧ out.length = xs.length + W ∧ crcOfBits wd p s out = (0, 0) ∧ hasCrc wd p s out = true := by
  by_cases h0 : (crcOfBits wd p s xs).2 = 0
  · by_cases h3 : 8192 < (xs.length : Int) + wd
    · rw [ac_3 h0 h3] at h; cases h
    · rw [ac_0 h0 h3] at h
      obtain ⟨W, g, r, rfl, h1, h2, rfl, hg, rfl, hb, hv⟩ := cob_get h0
      rw [hv, Int.toNat_natCast] at h
      simp only [Prod.mk.injEq, and_true] at h
      have hbits := (isBits_iff.1 hb).2
      have hbl := bitsOf_bits (regOf g r xs) W
      have hlen : out.length = xs.length + W := by rw [← h, List.length_append, bitsOf_len]
      have hob : isBits out = true := by
        rw [isBits_iff]
        refine ⟨by omega, fun x hx => ?_⟩
        rw [← h] at hx
        rcases List.mem_append.1 hx with hx | hx
        · exact hbits x hx
        · exact hbl x hx
      have hz : fbs g r (bl out) = 0#W := by
        rw [← h, bl_append, fbs_append]
        have hn := numOf_bitsOf (regOf g r xs) W (by unfold regOf; omega) (by unfold regOf; exact reg_pow _)
        exact (fbs_zero_iff hg _ (bitsOf_len _ _) hbl).2 (by rw [hn]; rfl)
      have hreg : regOf g r out = 0 := by unfold regOf; rw [hz]; simp
      have hcode := crcCode_put (g := g) r h1 h2 hg
      refine ⟨W, rfl, h1, h2, hlen, ?_, ?_⟩
      · rw [cob_put r h1 h2 hg hob, hreg]
      · rw [hc_raw hcode hob (by omega), crcRaw_eq, hreg]; rfl
  · rw [ac_err h0] at h
    exact absurd (congrArg Prod.snd h) h0

set_option maxHeartbeats 1000000 in
theorem drawHasCrc_any (ao : Option Addr) (n cap : Nat) (cs : List Int) (w : World) (hr : RdB w w.heap.size ao n cs) (hn : n ≤ 1048576) :
    Calls Try.prog 39 #[.slice ao n cap] w (DrawnCSL 2 w) := by
  have hb0 : Below w.heap.size w (w.alloc (.cells #[.int .i64 0, .int .i64 0] 25)) := (Below.refl _ _).alloc (Nat.le_refl _) _
  have hR0 : StructAt 25 (w.alloc (.cells #[.int .i64 0, .int .i64 0] 25)) w.heap.size 0 0 := StructAt.new w
  have hr0 := rdB_grow hr hb0
  have hsz : (w.alloc (.cells #[.int .i64 0, .int .i64 0] 25)).heap.size = w.heap.size + 1 := by simp
  have HB := Lib.hid hb0; clear hb0
  have HR := Lib.hid hr0; clear hr0 hr
  have HR0 := Lib.hid hR0; clear hR0
  have HSZ := Lib.hid hsz; clear hsz
  go_enter Try.func39, Try.ntmps39
  go_wp2_with fail
  generalize w.alloc (.cells #[.int .i64 0, .int .i64 0] 25) = w0 at HB HR HR0 HSZ ⊢
  have hlt0 : w.heap.size < w0.heap.size := by have := HSZ.out; omega
  refine (from_any _ _ _ cs _ HR.out hn).mono ?_
  rintro e w1 ⟨p, rfl, hlo, hs1, hb1⟩
  have H : HeldS 2 79 w0 w1 p [] := HeldS.start hb1 hlo hs1
  clear hlo hs1 hb1
  go_wp2_with fail
  refine (drawCrcOfBits_any _ _ _ cs _ (rdB_grow HR.out H.below) hn).mono ?_
  rintro e w2 ⟨wd, pl, s, v, xs, rfl, o2, hxl, b2⟩
  obtain ⟨p2, c2, rfl, o2, -⟩ := o2.get
  replace H := H.make o2 b2
  clear o2 b2
  have H3 := Lib.hid (H.still ((Below.refl w2.heap.size w2).alloc (Nat.le_refl _) (.cells #[.int .i64 wd, .int .i64 pl] 25)))
  have C3 := Lib.hid (StructAt.new (T := 25) (x := wd) (y := pl) w2)
  have hCp : w2.heap.size ≠ p := by have := H.src.lt; omega
  have hCR : w2.heap.size ≠ w.heap.size := by have := H.below.size; omega
  obtain ⟨C, hC⟩ : ∃ C, C = w2.heap.size := ⟨_, rfl⟩
  clear H
  obtain ⟨r0, r1, hF⟩ : ∃ r0 r1, appendCrc wd pl s xs = (r0, r1) := ⟨_, _, rfl⟩
  have hrl : r0.length ≤ 8192 := by have h := appendCrc_len wd pl s xs; rw [hF] at h; exact h
  have HF := Lib.hid hF; clear hF
  go_wp2_with fail
  generalize w2.alloc (.cells #[.int .i64 wd, .int .i64 pl] 25) = w3 at H3 C3 ⊢
  rw [← hC] at C3 hCp hCR ⊢
  clear hC
  refine (sAppendCrc_any _ _ _ _ _ xs _ (H3.out.rd 0 rfl rfl) (by omega)).mono ?_
  rintro e w4 m4
  rw [HF.out] at m4
  change Makes2 2 _ r0 r1 _ _ at m4
  obtain ⟨p4, c4, rfl, o4, -, b4⟩ := m4.get
  have C4 := Lib.hid (C3.out.below b4 C3.out.lt)
  have hCg : C < w3.heap.size := C3.out.lt
  have hpg : p < w3.heap.size := H3.out.src.lt
  have H4 := Lib.hid (H3.out.make o4 b4)
  have O4 := Lib.hid o4
  have R4 := Lib.hid (HR0.out.below H4.out.below HR0.out.lt)
  clear o4 b4 m4 C3 H3
  by_cases hr1 : r1 = 0
  · subst hr1
    have hol3 : 3 ≤ r0.length := by obtain ⟨W, -, hW1, -, hol, -, -⟩ := appended_round HF.out; omega
    go_wp2_with fail
    refine (next_any _ _ _ H4.out.src (by omega)).mono ?_
    rintro e w5 ⟨y, rfl, hy0, -, -, hs5, g5⟩
    have H5 := Lib.hid (H4.out.next hs5 g5)
    have C5 := Lib.hid (C4.out.grown g5 (by simp; omega))
    have O5 := Lib.hid (O4.out.src g5 hpg)
    have R5 := Lib.hid (HR0.out.below H5.out.below HR0.out.lt)
    clear H4 C4 O4 R4 hs5 g5
    by_cases hy : y = 0
    · subst hy
      have hc0 := (C5.out).c0
      have hc1 := (C5.out).c1
      have hr0 := (R5.out).c0
      have hr1 := (R5.out).c1
      have hq0 := (R5.out).f0 0
      have hq1 := (R5.out).f0 1
      go_wp2_with fail
      clear hc0 hc1 hr0 hr1 hq0 hq1
      have h6 : Below w.heap.size (w5) (((w5).setCell ⟨w.heap.size, 0, none⟩ (.int .i64 wd)).setCell ⟨w.heap.size, 1, none⟩ (.int .i64 pl)) := ((Below.refl _ _).setCell (by simp) _).setCell (by simp) _
      have hR6 := ((R5.out).set0 wd).set1 pl
      have hd0 := hR6.c0
      have hd1 := hR6.c1
      have hO := own_far (a := .int .i64 wd) (b := .int .i64 pl) (H5.out.get 1 rfl) hlt0
      exact bodyPost_ret (v := .tuple #[.agg #[.int .i64 wd, .int .i64 pl], .int .i64 s, .slice p2 xs.length c2]) (by simp [results, Try.results39, go_sem, hd0, hd1]) rfl ⟨_, _, _, _, xs, rfl, hO.more (Nat.le_of_lt hlt0), hxl, (below_two HB.out (H5.out.below)).trans h6⟩
    · have t0 : (y == 0) = false := by simp [hy]
      clear hy
      go_wp2_with fail
      refine (next_any _ _ _ H5.out.src (by omega)).mono ?_
      rintro e w6 ⟨z, rfl, hz0, -, -, hs6, g6⟩
      have H6 := Lib.hid (H5.out.next hs6 g6)
      have C6 := Lib.hid (C5.out.grown g6 (by simp; omega))
      have O6 := Lib.hid (O5.out.src g6 hpg)
      have R6 := Lib.hid (HR0.out.below H6.out.below HR0.out.lt)
      clear H5 C5 O5 R5 hs6 g6
      by_cases hz : z = 0
      · subst hz
        go_wp2_with fail
        refine (next_any _ _ _ H6.out.src (by omega)).mono ?_
        rintro e w7 ⟨k, rfl, hk0, hk1, -, hs7, g7⟩
        obtain ⟨k, rfl⟩ := Int.eq_ofNat_of_zero_le hk0
        have hk2 : k < r0.length := by have := hk1 (by omega); omega
        have H7 := Lib.hid (H6.out.next hs7 g7)
        have C7 := Lib.hid (C6.out.grown g7 (by simp; omega))
        have O7 := Lib.hid (O6.out.src g7 hpg)
        have R7 := Lib.hid (HR0.out.below H7.out.below HR0.out.lt)
        clear H6 C6 O6 R6 hs7 g7 hk0 hk1
        obtain ⟨g, rfl⟩ : ∃ g, p4 = some ⟨g, 0, none⟩ := by
          obtain ⟨a', c', e, -, -, -, hh⟩ := O7.out.form
          rcases hh with hh | ⟨g, rfl, -⟩
          · simp only [Value.slice.injEq] at hh; omega
          · exact ⟨g, by simp only [Value.slice.injEq] at e; exact e.1⟩
        obtain ⟨y', hy'⟩ : ∃ y', y' = r0.getD k 0 := ⟨_, rfl⟩
        obtain ⟨u, hu⟩ : ∃ u, u = wrap64 (1 - y') := ⟨_, rfl⟩
        have hgb := (O7.out.block g rfl).1
        obtain ⟨hcell, hfz, O8, b8⟩ := own_store O7.out rfl hk2 u
        rw [← hy'] at hcell
        have g8 : w7.grownBy (w7.setCell ⟨g, k, none⟩ (.int .i64 u)) (some g) := ⟨rfl, rfl, rfl, by simp [World.setCell], fun i _ hi => heap_setCell_other _ ⟨g, k, none⟩ i _ (fun e => hi (by simp [e]))⟩
        have hge : w0.heap.size ≤ g := by have := H7.out.lo; have := ((H7.out.own (Value.slice (some ⟨g, 0, none⟩) r0.length c4, r0) (by simp)).block g rfl).1; omega
        have C8 := Lib.hid (C7.out.grown g8 (by simp; omega))
        have R8 := Lib.hid (R7.out.grown g8 (by simp; omega))
        have B8 := Lib.hid (H7.out.below.grown g8 H7.out.below.size (fun i hi => by cases hi; exact hge))
        have OO := Lib.hid (O8.more (by have := H7.out.lo; omega : w0.heap.size ≤ w3.heap.size))
        have hk3 : (k : Int) < (r0.length : Int) := by omega
        have HU := Lib.hid hu
        clear hy' O7 O8 b8 g8 hgb hge C7 R7 hu
        go_upto_region 9 with fail
        rw [← HU.out]
        generalize w7.setCell ⟨g, k, none⟩ (.int .i64 u) = w8 at C8 R8 B8 OO ⊢
        clear hcell hfz HU
        have hc0 := (C8.out).c0
        have hc1 := (C8.out).c1
        have hr0 := (R8.out).c0
        have hr1 := (R8.out).c1
        have hq0 := (R8.out).f0 0
        have hq1 := (R8.out).f0 1
        go_wp2_with fail
        clear hc0 hc1 hr0 hr1 hq0 hq1
        have h6 : Below w.heap.size (w8) (((w8).setCell ⟨w.heap.size, 0, none⟩ (.int .i64 wd)).setCell ⟨w.heap.size, 1, none⟩ (.int .i64 pl)) := ((Below.refl _ _).setCell (by simp) _).setCell (by simp) _
        have hR6 := ((R8.out).set0 wd).set1 pl
        have hd0 := hR6.c0
        have hd1 := hR6.c1
        have hO := own_far (a := .int .i64 wd) (b := .int .i64 pl) (OO.out) hlt0
        exact bodyPost_ret (v := .tuple #[.agg #[.int .i64 wd, .int .i64 pl], .int .i64 s, .slice (some ⟨g, 0, none⟩) r0.length c4]) (by simp [results, Try.results39, go_sem, hd0, hd1]) rfl ⟨_, _, _, _, (r0.set k u), rfl, hO.more (Nat.le_of_lt hlt0), by rw [List.length_set]; omega, (below_two HB.out (B8.out)).trans h6⟩
      · have t1 : (z == 0) = false := by simp [hz]
        clear hz
        have hc0 := (C6.out).c0
        have hc1 := (C6.out).c1
        have hr0 := (R6.out).c0
        have hr1 := (R6.out).c1
        have hq0 := (R6.out).f0 0
        have hq1 := (R6.out).f0 1
        go_wp2_with fail
        clear hc0 hc1 hr0 hr1 hq0 hq1
        have h6 : Below w.heap.size (w6) (((w6).setCell ⟨w.heap.size, 0, none⟩ (.int .i64 wd)).setCell ⟨w.heap.size, 1, none⟩ (.int .i64 pl)) := ((Below.refl _ _).setCell (by simp) _).setCell (by simp) _
        have hR6 := ((R6.out).set0 wd).set1 pl
        have hd0 := hR6.c0
        have hd1 := hR6.c1
        have hO := own_far (a := .int .i64 wd) (b := .int .i64 pl) (H6.out.get 0 rfl) hlt0
        exact bodyPost_ret (v := .tuple #[.agg #[.int .i64 wd, .int .i64 pl], .int .i64 s, .slice p4 r0.length c4]) (by simp [results, Try.results39, go_sem, hd0, hd1]) rfl ⟨_, _, _, _, r0, rfl, hO.more (Nat.le_of_lt hlt0), by omega, (below_two HB.out (H6.out.below)).trans h6⟩
  · have t1 : (r1 != 0) = true := by simp [hr1]
    clear hr1
    have hc0 := (C4.out).c0
    have hc1 := (C4.out).c1
    have hr0 := (R4.out).c0
    have hr1 := (R4.out).c1
    have hq0 := (R4.out).f0 0
    have hq1 := (R4.out).f0 1
    go_wp2_with fail
    clear hc0 hc1 hr0 hr1 hq0 hq1
    have h6 : Below w.heap.size (w4) (((w4).setCell ⟨w.heap.size, 0, none⟩ (.int .i64 wd)).setCell ⟨w.heap.size, 1, none⟩ (.int .i64 pl)) := ((Below.refl _ _).setCell (by simp) _).setCell (by simp) _
    have hR6 := ((R4.out).set0 wd).set1 pl
    have hd0 := hR6.c0
    have hd1 := hR6.c1
    have hO := own_far (a := .int .i64 wd) (b := .int .i64 pl) (H4.out.get 1 rfl) hlt0
    exact bodyPost_ret (v := .tuple #[.agg #[.int .i64 wd, .int .i64 pl], .int .i64 s, .slice p2 xs.length c2]) (by simp [results, Try.results39, go_sem, hd0, hd1]) rfl ⟨_, _, _, _, xs, rfl, hO.more (Nat.le_of_lt hlt0), hxl, (below_two HB.out (H4.out.below)).trans h6⟩
end Go.Proofs.Ytadmpfmpmpdbeaa
