/-
  Chapter 6: l06Frame, its ways (B).
  Chapter 6: l06Frame, its ways (C).
-/
import Derived.Test.YtbdfnkhmnglpbaaSixF
namespace Go.Proofs.Ytbdfnkhmnglpbaa
section
open Go.RowKit

set_option maxHeartbeats 2000000 in
set_option maxRecDepth 100000 in
set_option linter.unusedVariables false in
set_option linter.unusedSimpArgs false in
theorem sp10_0 (b off e n : Nat) (w : World) (h a q y0 y1 y2 y3 y4 : Int) (d bs : List Int) (hb : b < w.heap.size) (hc : w.cell? ⟨b, off, none⟩ = some (.int .i64 h)) (hcap : n + 9 ≤ e + 9) (hcap2 : e + 9 ≤ 9223372036854775807) (hh : 0 ≤ h ∧ h ≤ 255) (hK : h / 64 = a) (hQ : h / 8 % 8 = q) (hx : (a != 0) = true) (hy : hasData a = false) (hce : ¬ e = 0) (xs : List Int) (hxl : xs.length = n + 9) (hxr : Rd w (some ⟨b, off, none⟩) xs.length xs) (hxm : xs.length ≤ 1024)
    (hsb : ∀ W c, Below w.heap.size w W → Calls Try.prog 127 #[.slice (some ⟨b, off + 1, none⟩) 8 c] W (Makes 2 W bs)) (hbs : bs.length = 64) (hss : ∀ W p c, Rd W p 64 bs → Calls Try.prog 156 #[.slice p 64 c] W (GivesState W y0 y1 y2 y3 y4)) :
    Calls Try.prog 134 #[.slice (some ⟨b, off, none⟩) (n + 9) (e + 9)] w (GivesFB w ⟨a, q, y0, y1, y2, y3, y4, []⟩ (.bool (isFrame ⟨a, q, y0, y1, y2, y3, y4, []⟩ && decide (frameBytes ⟨a, q, y0, y1, y2, y3, y4, []⟩ = xs)))) := by
  have hd1 : IntKind.i64.wrap (h.tdiv 64) = a := by rw [Int.tdiv_eq_ediv_of_nonneg hh.1, IntKind.wrap_i64]; omega
  have hd2 : IntKind.i64.wrap (h.tdiv 8) = h / 8 := by rw [Int.tdiv_eq_ediv_of_nonneg hh.1, IntKind.wrap_i64]; omega
  have hd3 : (h / 8).tmod 8 = q := by rw [Int.tmod_eq_emod_of_nonneg (by omega)]; omega
  have hc1 : (w.alloc (.cells #[.int .i64 0, .int .i64 0, .int .i64 0, .int .i64 0, .int .i64 0, .int .i64 0, .int .i64 0, .slice none 0 0] 28)).cell? ⟨b, off, none⟩ = some (.int .i64 h) := (((Below.refl w.heap.size w).alloc (Nat.le_refl _) _).cell (p := ⟨b, off, none⟩) hb).trans hc
  have q1 : (0 : Int) < (n : Int) + 9 := by omega
  have q2 : ¬ (n : Int) + 9 = 0 := by omega
  have HX := Lib.hid hx; have HY := Lib.hid hy; have HSB := Lib.hid hsb; have HBS := Lib.hid hbs; have HSS := Lib.hid hss; clear hsb hbs hss; have HXL := Lib.hid hxl; have HXR := Lib.hid (show Rd w (some ⟨b, off, none⟩) (n + 9) xs from by rw [← hxl]; exact hxr); have HXM := Lib.hid hxm; clear hxl hxr hxm
  clear hx hy hQ hK
  go_enter Try.func134, Try.ntmps134
  go_upto_region 3 with fail
  go_region_held3 (fun w' => w'.cell? ⟨b, off, none⟩ = some (.int .i64 h)) (first | exact hc1 | go_keep) (fail)
  go_wp2_with fail
  refine (l06State_any _ _).mono ?_
  rintro e w1' ⟨rfl, rfl⟩
  rw [HX.out]
  have S1 := Lib.hid (ReadSt.start2 w a q)
  generalize (((w.alloc (.cells #[.int .i64 0, .int .i64 0, .int .i64 0, .int .i64 0, .int .i64 0, .int .i64 0, .int .i64 0, .slice none 0 0] 28)).alloc (.cells #[.int .i64 a, .int .i64 q, .int .i64 0, .int .i64 0, .int .i64 0, .int .i64 0, .int .i64 0, .slice none 0 0] 28)).drew) = w1 at S1 ⊢
  clear hc hc1 hd1 hd2 hd3
  have q3 : (8 : Int) ≤ (e : Int) + 8 := by omega
  go_wp2_with fail
  refine (HSB.out _ _ S1.out.below).mono ?_
  rintro e w2 m2
  obtain ⟨p2, c2, rfl, -, r2, b2⟩ := m2.get
  rw [HBS.out] at r2 ⊢
  have S2 := Lib.hid (S1.out.call b2)
  clear m2 b2 S1
  go_wp2_with fail
  refine (HSS.out _ _ _ r2).mono ?_
  rintro e w3 ⟨rfl, b3⟩
  have S3 := Lib.hid (S2.out.call b3)
  clear b3 r2 S2
  have c2 := S3.out.var.c2
  have f2 := S3.out.var.f 2
  have c3 := S3.out.var.c3
  have f3 := S3.out.var.f 3
  have c4 := S3.out.var.c4
  have f4 := S3.out.var.f 4
  have c5 := S3.out.var.c5
  have f5 := S3.out.var.f 5
  have c6 := S3.out.var.c6
  have f6 := S3.out.var.f 6
  go_upto_region 9 with fail
  clear c2 c3 c4 c5 c6 f2 f3 f4 f5 f6
  change Code.wp _ _ _ _ (setFiveAt w3 (w.heap.size + 1) 2 y0 y1 y2 y3 y4)
  have S4 := Lib.hid (S3.out.five y0 y1 y2 y3 y4)
  generalize setFiveAt w3 (w.heap.size + 1) 2 y0 y1 y2 y3 y4 = w4 at S4 ⊢
  clear S3
  have c0 := S4.out.var.c0
  have lv := S4.out.var.lt
  go_upto_region 14 with (go_at_call 129; refine (l06Data_any _ _).mono ?_; rintro e w4' ⟨rfl, rfl⟩; rw [HY.out])
  clear c0 lv
  obtain ⟨p9, c9, hpc⟩ : ∃ p9 c9, Value.slice p9 0 c9 = .slice none 0 0 := ⟨_, _, rfl⟩
  have O9 := S4.out.own
  obtain ⟨ao', cap', e', -, RD⟩ := O9.get
  cases e'
  have HB9 := Lib.hid RD
  clear RD O9 hpc
  have S7 := Lib.hid (S4.out.call (Below.drew (Below.refl w4.heap.size w4)))
  have R7 := Lib.hid (HB9.out.below (Below.drew (Below.refl w4.heap.size w4)))
  obtain ⟨b1, hb1⟩ : ∃ b1, isFrame ⟨a, q, y0, y1, y2, y3, y4, []⟩ = b1 := ⟨_, rfl⟩
  have HI := Lib.hid hb1; clear hb1
  cases b1
  · refine wp_region_held_drew (S := fun w' => w'.cell? ⟨w.heap.size + 1, 0, none⟩ = some (.int .i64 a) ∧ w'.cell? ⟨w.heap.size + 1, 1, none⟩ = some (.int .i64 q) ∧ w'.cell? ⟨w.heap.size + 1, 2, none⟩ = some (.int .i64 y0) ∧ w'.cell? ⟨w.heap.size + 1, 3, none⟩ = some (.int .i64 y1) ∧ w'.cell? ⟨w.heap.size + 1, 4, none⟩ = some (.int .i64 y2) ∧ w'.cell? ⟨w.heap.size + 1, 5, none⟩ = some (.int .i64 y3) ∧ w'.cell? ⟨w.heap.size + 1, 6, none⟩ = some (.int .i64 y4) ∧ w'.cell? ⟨w.heap.size + 1, 7, none⟩ = some (.slice none 0 0)) (by kernel_rfl) (frame_cells S7.out.var) (fun hHeld => ?_)
    refine wpAnyH_take (i := 0) (v := ?_) rfl (by kernel_rfl) (by kernel_rfl) (by kernel_rfl) (fun _ _ _ h => h) (Or.inl ⟨by rfl, ?_⟩) (by assumption) ?_
    rotate_left
    · (intro w hSw; (try dsimp only at hSw); go_simp; (try with_reducible rfl))
    try simp only [List.getElem_toArray, List.getElem_cons_succ, List.getElem_cons_zero, Act.put, List.setIfInBounds_toArray, List.set_cons_zero, List.set_cons_succ]
    refine wpAnyH_take (i := 1) (v := ?_) rfl (by kernel_rfl) (by kernel_rfl) (by kernel_rfl) (fun _ _ _ h => h) (Or.inl ⟨by rfl, ?_⟩) (by assumption) ?_
    rotate_left
    · (intro w hSw; (try dsimp only at hSw); go_simp; (try with_reducible rfl))
    try simp only [List.getElem_toArray, List.getElem_cons_succ, List.getElem_cons_zero, Act.put, List.setIfInBounds_toArray, List.set_cons_zero, List.set_cons_succ]
    refine wpAnyH_ready (rs := [2]) (by kernel_rfl) (by simp) (AllReadyH.cons rfl (fun K hK => ?_) AllReadyH.nil)
    go_simp
    refine (sIsFrame_any _ _ _ _ _ _ _ _ _ _ _ R7.out (Nat.zero_le _)).mono ?_
    rintro e w8 ⟨rfl, b8⟩
    rw [HI.out]
    have S8 := Lib.hid (S7.out.call b8)
    clear b8
    go_wp2_with fail
    refine hK.out _ _ ?_ (fun hHeld => ?_)
    · exact frame_cells S8.out.var
    clear hK K
    try simp only [List.getElem_toArray, List.getElem_cons_succ, List.getElem_cons_zero, Act.put, List.setIfInBounds_toArray, List.set_cons_zero, List.set_cons_succ]
    refine wpAnyH_take (i := 3) (v := ?_) rfl (by kernel_rfl) (by kernel_rfl) (by kernel_rfl) (fun _ _ _ h => h) (Or.inl ⟨by rfl, ?_⟩) (by assumption) ?_
    rotate_left
    · (intro w hSw; (try dsimp only at hSw); go_simp; (try with_reducible rfl))
    try simp only [List.getElem_toArray, List.getElem_cons_succ, List.getElem_cons_zero, Act.put, List.setIfInBounds_toArray, List.set_cons_zero, List.set_cons_succ]
    refine wpAnyH_take (i := 4) (v := undef) rfl (by kernel_rfl) (by kernel_rfl) (by kernel_rfl) (fun _ _ _ h => h) (Or.inr ⟨by rfl, rfl⟩) (by assumption) ?_
    try simp only [List.getElem_toArray, List.getElem_cons_succ, List.getElem_cons_zero, Act.put, List.setIfInBounds_toArray, List.set_cons_zero, List.set_cons_succ]
    refine wpAnyH_take (i := 5) (v := undef) rfl (by kernel_rfl) (by kernel_rfl) (by kernel_rfl) (fun _ _ _ h => h) (Or.inr ⟨by rfl, rfl⟩) (by assumption) ?_
    try simp only [List.getElem_toArray, List.getElem_cons_succ, List.getElem_cons_zero, Act.put, List.setIfInBounds_toArray, List.set_cons_zero, List.set_cons_succ]
    refine wpAnyH_take (i := 6) (v := undef) rfl (by kernel_rfl) (by kernel_rfl) (by kernel_rfl) (fun _ _ _ h => h) (Or.inr ⟨by rfl, rfl⟩) (by assumption) ?_
    try simp only [List.getElem_toArray, List.getElem_cons_succ, List.getElem_cons_zero, Act.put, List.setIfInBounds_toArray, List.set_cons_zero, List.set_cons_succ]
    refine wpAnyH_take (i := 7) (v := undef) rfl (by kernel_rfl) (by kernel_rfl) (by kernel_rfl) (fun _ _ _ h => h) (Or.inr ⟨by rfl, rfl⟩) (by assumption) ?_
    try simp only [List.getElem_toArray, List.getElem_cons_succ, List.getElem_cons_zero, Act.put, List.setIfInBounds_toArray, List.set_cons_zero, List.set_cons_succ]
    refine wpAnyH_take (i := 8) (v := ?_) rfl (by kernel_rfl) (by kernel_rfl) (by kernel_rfl) (fun _ _ _ h => h) (Or.inl ⟨by rfl, ?_⟩) (by assumption) ?_
    rotate_left
    · (intro w hSw; (try dsimp only at hSw); go_simp; (try with_reducible rfl))
    try simp only [List.getElem_toArray, List.getElem_cons_succ, List.getElem_cons_zero, Act.put, List.setIfInBounds_toArray, List.set_cons_zero, List.set_cons_succ]
    have d0 := S8.out.res.c0
    have f0 := S8.out.res.f 0
    have d1 := S8.out.res.c1
    have f1 := S8.out.res.f 1
    have d2 := S8.out.res.c2
    have f2 := S8.out.res.f 2
    have d3 := S8.out.res.c3
    have f3 := S8.out.res.f 3
    have d4 := S8.out.res.c4
    have f4 := S8.out.res.f 4
    have d5 := S8.out.res.c5
    have f5 := S8.out.res.f 5
    have d6 := S8.out.res.c6
    have f6 := S8.out.res.f 6
    have d7 := S8.out.res.c7
    have f7 := S8.out.res.f 7
    refine wpAnyH_ready (rs := [9]) (by kernel_rfl) (by simp) (AllReadyH.cons rfl (fun K hK => ?_) AllReadyH.nil)
    go_simp
    clear d0 d1 d2 d3 d4 d5 d6 d7 f0 f1 f2 f3 f4 f5 f6 f7
    refine hK.out _ _ ?_ (fun hHeld => ?_)
    · exact frame_cells (S8.out.var.otherEight (c := w.heap.size) (by omega) a q y0 y1 y2 y3 y4 (.slice none 0 0))
    clear hK K
    try simp only [List.getElem_toArray, List.getElem_cons_succ, List.getElem_cons_zero, Act.put, List.setIfInBounds_toArray, List.set_cons_zero, List.set_cons_succ]
    refine wpAnyH_take (i := 10) (v := ?_) rfl (by kernel_rfl) (by kernel_rfl) (by kernel_rfl) (fun _ _ _ h => h) (Or.inl ⟨by rfl, ?_⟩) (by assumption) ?_
    rotate_left
    · (intro w hSw; (try dsimp only at hSw); go_simp; (try with_reducible rfl))
    try simp only [List.getElem_toArray, List.getElem_cons_succ, List.getElem_cons_zero, Act.put, List.setIfInBounds_toArray, List.set_cons_zero, List.set_cons_succ]
    refine wpAnyH_done (by kernel_rfl) ?_ _
    change Exit.then _ _ _ _ (setEight w8 w.heap.size a q y0 y1 y2 y3 y4 (.slice none 0 0))
    obtain ⟨SF, BF, OF⟩ := S8.out.fin a q y0 y1 y2 y3 y4 (.slice none 0 0)
    generalize setEight w8 w.heap.size a q y0 y1 y2 y3 y4 (.slice none 0 0) = wz at SF BF OF ⊢
    have e0 := SF.c0
    have e1 := SF.c1
    have e2 := SF.c2
    have e3 := SF.c3
    have e4 := SF.c4
    have e5 := SF.c5
    have e6 := SF.c6
    have e7 := SF.c7
    go_wp2_with fail
    exact bodyPost_ret (v := .tuple #[.agg #[.int .i64 a, .int .i64 q, .int .i64 y0, .int .i64 y1, .int .i64 y2, .int .i64 y3, .int .i64 y4, .slice none 0 0], .bool false]) (by simp [results, Try.results134, go_sem, e0, e1, e2, e3, e4, e5, e6, e7]) rfl ⟨_, _, by rw [show isFrame ⟨a, q, y0, y1, y2, y3, y4, []⟩ = false from HI.out]; rfl, OF, BF⟩
  · have hfbl := frameBytes_small HI.out
    obtain ⟨fb, hfb⟩ : ∃ fb, frameBytes ⟨a, q, y0, y1, y2, y3, y4, []⟩ = fb := ⟨_, rfl⟩
    rw [hfb] at hfbl
    have HFB := Lib.hid hfb; have HFL := Lib.hid hfbl; clear hfb hfbl
    have hdlt : 0 ≤ 1048576 := by exact Nat.zero_le _
    have HDLT := Lib.hid hdlt; clear hdlt
    have HFL1 : Hid (fb.length ≤ 9223372036854775807) := Lib.hid (by have := HFL.out; omega)
    have HFL2 : Hid (n + 9 ≤ 9223372036854775807) := Lib.hid (by have := HXL.out; have := HXM.out; omega)
    refine wp_region_held_drew (S := fun w' => w'.cell? ⟨w.heap.size + 1, 0, none⟩ = some (.int .i64 a) ∧ w'.cell? ⟨w.heap.size + 1, 1, none⟩ = some (.int .i64 q) ∧ w'.cell? ⟨w.heap.size + 1, 2, none⟩ = some (.int .i64 y0) ∧ w'.cell? ⟨w.heap.size + 1, 3, none⟩ = some (.int .i64 y1) ∧ w'.cell? ⟨w.heap.size + 1, 4, none⟩ = some (.int .i64 y2) ∧ w'.cell? ⟨w.heap.size + 1, 5, none⟩ = some (.int .i64 y3) ∧ w'.cell? ⟨w.heap.size + 1, 6, none⟩ = some (.int .i64 y4) ∧ w'.cell? ⟨w.heap.size + 1, 7, none⟩ = some (.slice none 0 0)) (by kernel_rfl) (frame_cells S7.out.var) (fun hHeld => ?_)
    refine wpAnyH_take (i := 0) (v := ?_) rfl (by kernel_rfl) (by kernel_rfl) (by kernel_rfl) (fun _ _ _ h => h) (Or.inl ⟨by rfl, ?_⟩) (by assumption) ?_
    rotate_left
    · (intro w hSw; (try dsimp only at hSw); go_simp; (try with_reducible rfl))
    try simp only [List.getElem_toArray, List.getElem_cons_succ, List.getElem_cons_zero, Act.put, List.setIfInBounds_toArray, List.set_cons_zero, List.set_cons_succ]
    refine wpAnyH_take (i := 1) (v := ?_) rfl (by kernel_rfl) (by kernel_rfl) (by kernel_rfl) (fun _ _ _ h => h) (Or.inl ⟨by rfl, ?_⟩) (by assumption) ?_
    rotate_left
    · (intro w hSw; (try dsimp only at hSw); go_simp; (try with_reducible rfl))
    try simp only [List.getElem_toArray, List.getElem_cons_succ, List.getElem_cons_zero, Act.put, List.setIfInBounds_toArray, List.set_cons_zero, List.set_cons_succ]
    refine wpAnyH_ready (rs := [2]) (by kernel_rfl) (by simp) (AllReadyH.cons rfl (fun K hK => ?_) AllReadyH.nil)
    go_simp
    refine (sIsFrame_any _ _ _ _ _ _ _ _ _ _ _ R7.out HDLT.out).mono ?_
    rintro e w8 ⟨rfl, b8⟩
    rw [HI.out]
    have S8 := Lib.hid (S7.out.call b8)
    have R8 := Lib.hid (R7.out.below b8)
    clear b8
    go_wp2_with fail
    refine hK.out _ _ ?_ (fun hHeld => ?_)
    · exact frame_cells S8.out.var
    clear hK K
    try simp only [List.getElem_toArray, List.getElem_cons_succ, List.getElem_cons_zero, Act.put, List.setIfInBounds_toArray, List.set_cons_zero, List.set_cons_succ]
    refine wpAnyH_take (i := 3) (v := ?_) rfl (by kernel_rfl) (by kernel_rfl) (by kernel_rfl) (fun _ _ _ h => h) (Or.inl ⟨by rfl, ?_⟩) (by assumption) ?_
    rotate_left
    · (intro w hSw; (try dsimp only at hSw); go_simp; (try with_reducible rfl))
    try simp only [List.getElem_toArray, List.getElem_cons_succ, List.getElem_cons_zero, Act.put, List.setIfInBounds_toArray, List.set_cons_zero, List.set_cons_succ]
    refine wpAnyH_take (i := 4) (v := ?_) rfl (by kernel_rfl) (by kernel_rfl) (by kernel_rfl) (fun _ _ _ h => h) (Or.inl ⟨by rfl, ?_⟩) (by assumption) ?_
    rotate_left
    · (intro w hSw; (try dsimp only at hSw); go_simp; (try with_reducible rfl))
    try simp only [List.getElem_toArray, List.getElem_cons_succ, List.getElem_cons_zero, Act.put, List.setIfInBounds_toArray, List.set_cons_zero, List.set_cons_succ]
    refine wpAnyH_take (i := 6) (v := ?_) rfl (by kernel_rfl) (by kernel_rfl) (by kernel_rfl) (fun _ _ _ h => h) (Or.inl ⟨by rfl, ?_⟩) (by assumption) ?_
    rotate_left
    · (intro w hSw; (try dsimp only at hSw); go_simp; (try with_reducible rfl))
    try simp only [List.getElem_toArray, List.getElem_cons_succ, List.getElem_cons_zero, Act.put, List.setIfInBounds_toArray, List.set_cons_zero, List.set_cons_succ]
    refine wpAnyH_ready (rs := [5]) (by kernel_rfl) (by simp) (AllReadyH.cons rfl (fun K hK => ?_) AllReadyH.nil)
    go_simp
    refine (l06Body_any _ _ _ _ _ _ _ _ _ _ _ R8.out HDLT.out HI.out).mono ?_
    rintro e w9 m9
    rw [HFB.out] at m9
    obtain ⟨p9, c9, rfl, -, r9, b9⟩ := m9.get
    have S9 := Lib.hid (S8.out.call b9)
    have R9 := Lib.hid r9
    clear b9 m9 r9
    go_wp2_with fail
    refine hK.out _ _ ?_ (fun hHeld => ?_)
    · exact frame_cells S9.out.var
    clear hK K
    try simp only [List.getElem_toArray, List.getElem_cons_succ, List.getElem_cons_zero, Act.put, List.setIfInBounds_toArray, List.set_cons_zero, List.set_cons_succ]
    refine wpAnyH_ready (rs := [7]) (by kernel_rfl) (by simp) (AllReadyH.cons rfl (fun K hK => ?_) AllReadyH.nil)
    go_simp
    refine (same_any _ _ _ _ _ _ _ _ _ R9.out (HXR.out.below S9.out.below) HFL1.out HFL2.out).mono ?_
    rintro e w10 ⟨rfl, q10, rfl⟩
    have S10 := Lib.hid (S9.out.call (below_drewN' (Below.refl _ _) q10))
    go_wp2_with fail
    refine hK.out _ _ ?_ (fun hHeld => ?_)
    · exact frame_cells S10.out.var
    clear hK K
    try simp only [List.getElem_toArray, List.getElem_cons_succ, List.getElem_cons_zero, Act.put, List.setIfInBounds_toArray, List.set_cons_zero, List.set_cons_succ]
    refine wpAnyH_take (i := 8) (v := ?_) rfl (by kernel_rfl) (by kernel_rfl) (by kernel_rfl) (fun _ _ _ h => h) (Or.inl ⟨by rfl, ?_⟩) (by assumption) ?_
    rotate_left
    · (intro w hSw; (try dsimp only at hSw); go_simp; (try with_reducible rfl))
    try simp only [List.getElem_toArray, List.getElem_cons_succ, List.getElem_cons_zero, Act.put, List.setIfInBounds_toArray, List.set_cons_zero, List.set_cons_succ]
    have d0 := S10.out.res.c0
    have f0 := S10.out.res.f 0
    have d1 := S10.out.res.c1
    have f1 := S10.out.res.f 1
    have d2 := S10.out.res.c2
    have f2 := S10.out.res.f 2
    have d3 := S10.out.res.c3
    have f3 := S10.out.res.f 3
    have d4 := S10.out.res.c4
    have f4 := S10.out.res.f 4
    have d5 := S10.out.res.c5
    have f5 := S10.out.res.f 5
    have d6 := S10.out.res.c6
    have f6 := S10.out.res.f 6
    have d7 := S10.out.res.c7
    have f7 := S10.out.res.f 7
    refine wpAnyH_ready (rs := [9]) (by kernel_rfl) (by simp) (AllReadyH.cons rfl (fun K hK => ?_) AllReadyH.nil)
    go_simp
    clear d0 d1 d2 d3 d4 d5 d6 d7 f0 f1 f2 f3 f4 f5 f6 f7
    refine hK.out _ _ ?_ (fun hHeld => ?_)
    · exact frame_cells (S10.out.var.otherEight (c := w.heap.size) (by omega) a q y0 y1 y2 y3 y4 (.slice none 0 0))
    clear hK K
    try simp only [List.getElem_toArray, List.getElem_cons_succ, List.getElem_cons_zero, Act.put, List.setIfInBounds_toArray, List.set_cons_zero, List.set_cons_succ]
    refine wpAnyH_take (i := 10) (v := ?_) rfl (by kernel_rfl) (by kernel_rfl) (by kernel_rfl) (fun _ _ _ h => h) (Or.inl ⟨by rfl, ?_⟩) (by assumption) ?_
    rotate_left
    · (intro w hSw; (try dsimp only at hSw); go_simp; (try with_reducible rfl))
    try simp only [List.getElem_toArray, List.getElem_cons_succ, List.getElem_cons_zero, Act.put, List.setIfInBounds_toArray, List.set_cons_zero, List.set_cons_succ]
    refine wpAnyH_done (by kernel_rfl) ?_ _
    change Exit.then _ _ _ _ (setEight (w9.drewN q10) w.heap.size a q y0 y1 y2 y3 y4 (.slice none 0 0))
    obtain ⟨SF, BF, OF⟩ := S10.out.fin a q y0 y1 y2 y3 y4 (.slice none 0 0)
    generalize setEight (w9.drewN q10) w.heap.size a q y0 y1 y2 y3 y4 (.slice none 0 0) = wz at SF BF OF ⊢
    have e0 := SF.c0
    have e1 := SF.c1
    have e2 := SF.c2
    have e3 := SF.c3
    have e4 := SF.c4
    have e5 := SF.c5
    have e6 := SF.c6
    have e7 := SF.c7
    go_wp2_with fail
    exact bodyPost_ret (v := .tuple #[.agg #[.int .i64 a, .int .i64 q, .int .i64 y0, .int .i64 y1, .int .i64 y2, .int .i64 y3, .int .i64 y4, .slice none 0 0], .bool (true && decide (fb = xs))]) (by simp [results, Try.results134, go_sem, e0, e1, e2, e3, e4, e5, e6, e7]) rfl ⟨_, _, by rw [show isFrame ⟨a, q, y0, y1, y2, y3, y4, []⟩ = true from HI.out, show frameBytes ⟨a, q, y0, y1, y2, y3, y4, []⟩ = fb from HFB.out] <;> rfl, OF, BF⟩
set_option maxHeartbeats 2000000 in
set_option maxRecDepth 100000 in
set_option linter.unusedVariables false in
set_option linter.unusedSimpArgs false in
theorem sp10_1 (b off e n : Nat) (w : World) (h a q y0 y1 y2 y3 y4 : Int) (d bs : List Int) (hb : b < w.heap.size) (hc : w.cell? ⟨b, off, none⟩ = some (.int .i64 h)) (hcap : n + 9 ≤ 0 + 9) (hcap2 : 0 + 9 ≤ 9223372036854775807) (hh : 0 ≤ h ∧ h ≤ 255) (hK : h / 64 = a) (hQ : h / 8 % 8 = q) (hx : (a != 0) = true) (hy : hasData a = false) (xs : List Int) (hxl : xs.length = n + 9) (hxr : Rd w (some ⟨b, off, none⟩) xs.length xs) (hxm : xs.length ≤ 1024)
    (hsb : ∀ W c, Below w.heap.size w W → Calls Try.prog 127 #[.slice (some ⟨b, off + 1, none⟩) 8 c] W (Makes 2 W bs)) (hbs : bs.length = 64) (hss : ∀ W p c, Rd W p 64 bs → Calls Try.prog 156 #[.slice p 64 c] W (GivesState W y0 y1 y2 y3 y4)) :
    Calls Try.prog 134 #[.slice (some ⟨b, off, none⟩) (n + 9) (0 + 9)] w (GivesFB w ⟨a, q, y0, y1, y2, y3, y4, []⟩ (.bool (isFrame ⟨a, q, y0, y1, y2, y3, y4, []⟩ && decide (frameBytes ⟨a, q, y0, y1, y2, y3, y4, []⟩ = xs)))) := by
  have hd1 : IntKind.i64.wrap (h.tdiv 64) = a := by rw [Int.tdiv_eq_ediv_of_nonneg hh.1, IntKind.wrap_i64]; omega
  have hd2 : IntKind.i64.wrap (h.tdiv 8) = h / 8 := by rw [Int.tdiv_eq_ediv_of_nonneg hh.1, IntKind.wrap_i64]; omega
  have hd3 : (h / 8).tmod 8 = q := by rw [Int.tmod_eq_emod_of_nonneg (by omega)]; omega
  have hc1 : (w.alloc (.cells #[.int .i64 0, .int .i64 0, .int .i64 0, .int .i64 0, .int .i64 0, .int .i64 0, .int .i64 0, .slice none 0 0] 28)).cell? ⟨b, off, none⟩ = some (.int .i64 h) := (((Below.refl w.heap.size w).alloc (Nat.le_refl _) _).cell (p := ⟨b, off, none⟩) hb).trans hc
  have q1 : (0 : Int) < (n : Int) + 9 := by omega
  have q2 : ¬ (n : Int) + 9 = 0 := by omega
  have HX := Lib.hid hx; have HY := Lib.hid hy; have HSB := Lib.hid hsb; have HBS := Lib.hid hbs; have HSS := Lib.hid hss; clear hsb hbs hss; have HXL := Lib.hid hxl; have HXR := Lib.hid (show Rd w (some ⟨b, off, none⟩) (n + 9) xs from by rw [← hxl]; exact hxr); have HXM := Lib.hid hxm; clear hxl hxr hxm
  clear hx hy hQ hK
  go_enter Try.func134, Try.ntmps134
  go_upto_region 3 with fail
  go_region_held3 (fun w' => w'.cell? ⟨b, off, none⟩ = some (.int .i64 h)) (first | exact hc1 | go_keep) (fail)
  go_wp2_with fail
  refine (l06State_any _ _).mono ?_
  rintro e w1' ⟨rfl, rfl⟩
  rw [HX.out]
  have S1 := Lib.hid (ReadSt.start2 w a q)
  generalize (((w.alloc (.cells #[.int .i64 0, .int .i64 0, .int .i64 0, .int .i64 0, .int .i64 0, .int .i64 0, .int .i64 0, .slice none 0 0] 28)).alloc (.cells #[.int .i64 a, .int .i64 q, .int .i64 0, .int .i64 0, .int .i64 0, .int .i64 0, .int .i64 0, .slice none 0 0] 28)).drew) = w1 at S1 ⊢
  clear hc hc1 hd1 hd2 hd3
  have q3 : (8 : Int) ≤ (0 : Int) + 8 := by omega
  go_wp2_with fail
  refine (HSB.out _ _ S1.out.below).mono ?_
  rintro e w2 m2
  obtain ⟨p2, c2, rfl, -, r2, b2⟩ := m2.get
  rw [HBS.out] at r2 ⊢
  have S2 := Lib.hid (S1.out.call b2)
  clear m2 b2 S1
  go_wp2_with fail
  refine (HSS.out _ _ _ r2).mono ?_
  rintro e w3 ⟨rfl, b3⟩
  have S3 := Lib.hid (S2.out.call b3)
  clear b3 r2 S2
  have c2 := S3.out.var.c2
  have f2 := S3.out.var.f 2
  have c3 := S3.out.var.c3
  have f3 := S3.out.var.f 3
  have c4 := S3.out.var.c4
  have f4 := S3.out.var.f 4
  have c5 := S3.out.var.c5
  have f5 := S3.out.var.f 5
  have c6 := S3.out.var.c6
  have f6 := S3.out.var.f 6
  go_upto_region 9 with fail
  clear c2 c3 c4 c5 c6 f2 f3 f4 f5 f6
  change Code.wp _ _ _ _ (setFiveAt w3 (w.heap.size + 1) 2 y0 y1 y2 y3 y4)
  have S4 := Lib.hid (S3.out.five y0 y1 y2 y3 y4)
  generalize setFiveAt w3 (w.heap.size + 1) 2 y0 y1 y2 y3 y4 = w4 at S4 ⊢
  clear S3
  have c0 := S4.out.var.c0
  have lv := S4.out.var.lt
  go_upto_region 14 with (go_at_call 129; refine (l06Data_any _ _).mono ?_; rintro e w4' ⟨rfl, rfl⟩; rw [HY.out])
  clear c0 lv
  obtain ⟨p9, c9, hpc⟩ : ∃ p9 c9, Value.slice p9 0 c9 = .slice none 0 0 := ⟨_, _, rfl⟩
  have O9 := S4.out.own
  obtain ⟨ao', cap', e', -, RD⟩ := O9.get
  cases e'
  have HB9 := Lib.hid RD
  clear RD O9 hpc
  have S7 := Lib.hid (S4.out.call (Below.drew (Below.refl w4.heap.size w4)))
  have R7 := Lib.hid (HB9.out.below (Below.drew (Below.refl w4.heap.size w4)))
  obtain ⟨b1, hb1⟩ : ∃ b1, isFrame ⟨a, q, y0, y1, y2, y3, y4, []⟩ = b1 := ⟨_, rfl⟩
  have HI := Lib.hid hb1; clear hb1
  cases b1
  · refine wp_region_held_drew (S := fun w' => w'.cell? ⟨w.heap.size + 1, 0, none⟩ = some (.int .i64 a) ∧ w'.cell? ⟨w.heap.size + 1, 1, none⟩ = some (.int .i64 q) ∧ w'.cell? ⟨w.heap.size + 1, 2, none⟩ = some (.int .i64 y0) ∧ w'.cell? ⟨w.heap.size + 1, 3, none⟩ = some (.int .i64 y1) ∧ w'.cell? ⟨w.heap.size + 1, 4, none⟩ = some (.int .i64 y2) ∧ w'.cell? ⟨w.heap.size + 1, 5, none⟩ = some (.int .i64 y3) ∧ w'.cell? ⟨w.heap.size + 1, 6, none⟩ = some (.int .i64 y4) ∧ w'.cell? ⟨w.heap.size + 1, 7, none⟩ = some (.slice none 0 0)) (by kernel_rfl) (frame_cells S7.out.var) (fun hHeld => ?_)
    refine wpAnyH_take (i := 0) (v := ?_) rfl (by kernel_rfl) (by kernel_rfl) (by kernel_rfl) (fun _ _ _ h => h) (Or.inl ⟨by rfl, ?_⟩) (by assumption) ?_
    rotate_left
    · (intro w hSw; (try dsimp only at hSw); go_simp; (try with_reducible rfl))
    try simp only [List.getElem_toArray, List.getElem_cons_succ, List.getElem_cons_zero, Act.put, List.setIfInBounds_toArray, List.set_cons_zero, List.set_cons_succ]
    refine wpAnyH_take (i := 1) (v := ?_) rfl (by kernel_rfl) (by kernel_rfl) (by kernel_rfl) (fun _ _ _ h => h) (Or.inl ⟨by rfl, ?_⟩) (by assumption) ?_
    rotate_left
    · (intro w hSw; (try dsimp only at hSw); go_simp; (try with_reducible rfl))
    try simp only [List.getElem_toArray, List.getElem_cons_succ, List.getElem_cons_zero, Act.put, List.setIfInBounds_toArray, List.set_cons_zero, List.set_cons_succ]
    refine wpAnyH_ready (rs := [2]) (by kernel_rfl) (by simp) (AllReadyH.cons rfl (fun K hK => ?_) AllReadyH.nil)
    go_simp
    refine (sIsFrame_any _ _ _ _ _ _ _ _ _ _ _ R7.out (Nat.zero_le _)).mono ?_
    rintro e w8 ⟨rfl, b8⟩
    rw [HI.out]
    have S8 := Lib.hid (S7.out.call b8)
    clear b8
    go_wp2_with fail
    refine hK.out _ _ ?_ (fun hHeld => ?_)
    · exact frame_cells S8.out.var
    clear hK K
    try simp only [List.getElem_toArray, List.getElem_cons_succ, List.getElem_cons_zero, Act.put, List.setIfInBounds_toArray, List.set_cons_zero, List.set_cons_succ]
    refine wpAnyH_take (i := 3) (v := ?_) rfl (by kernel_rfl) (by kernel_rfl) (by kernel_rfl) (fun _ _ _ h => h) (Or.inl ⟨by rfl, ?_⟩) (by assumption) ?_
    rotate_left
    · (intro w hSw; (try dsimp only at hSw); go_simp; (try with_reducible rfl))
    try simp only [List.getElem_toArray, List.getElem_cons_succ, List.getElem_cons_zero, Act.put, List.setIfInBounds_toArray, List.set_cons_zero, List.set_cons_succ]
    refine wpAnyH_take (i := 4) (v := undef) rfl (by kernel_rfl) (by kernel_rfl) (by kernel_rfl) (fun _ _ _ h => h) (Or.inr ⟨by rfl, rfl⟩) (by assumption) ?_
    try simp only [List.getElem_toArray, List.getElem_cons_succ, List.getElem_cons_zero, Act.put, List.setIfInBounds_toArray, List.set_cons_zero, List.set_cons_succ]
    refine wpAnyH_take (i := 5) (v := undef) rfl (by kernel_rfl) (by kernel_rfl) (by kernel_rfl) (fun _ _ _ h => h) (Or.inr ⟨by rfl, rfl⟩) (by assumption) ?_
    try simp only [List.getElem_toArray, List.getElem_cons_succ, List.getElem_cons_zero, Act.put, List.setIfInBounds_toArray, List.set_cons_zero, List.set_cons_succ]
    refine wpAnyH_take (i := 6) (v := undef) rfl (by kernel_rfl) (by kernel_rfl) (by kernel_rfl) (fun _ _ _ h => h) (Or.inr ⟨by rfl, rfl⟩) (by assumption) ?_
    try simp only [List.getElem_toArray, List.getElem_cons_succ, List.getElem_cons_zero, Act.put, List.setIfInBounds_toArray, List.set_cons_zero, List.set_cons_succ]
    refine wpAnyH_take (i := 7) (v := undef) rfl (by kernel_rfl) (by kernel_rfl) (by kernel_rfl) (fun _ _ _ h => h) (Or.inr ⟨by rfl, rfl⟩) (by assumption) ?_
    try simp only [List.getElem_toArray, List.getElem_cons_succ, List.getElem_cons_zero, Act.put, List.setIfInBounds_toArray, List.set_cons_zero, List.set_cons_succ]
    refine wpAnyH_take (i := 8) (v := ?_) rfl (by kernel_rfl) (by kernel_rfl) (by kernel_rfl) (fun _ _ _ h => h) (Or.inl ⟨by rfl, ?_⟩) (by assumption) ?_
    rotate_left
    · (intro w hSw; (try dsimp only at hSw); go_simp; (try with_reducible rfl))
    try simp only [List.getElem_toArray, List.getElem_cons_succ, List.getElem_cons_zero, Act.put, List.setIfInBounds_toArray, List.set_cons_zero, List.set_cons_succ]
    have d0 := S8.out.res.c0
    have f0 := S8.out.res.f 0
    have d1 := S8.out.res.c1
    have f1 := S8.out.res.f 1
    have d2 := S8.out.res.c2
    have f2 := S8.out.res.f 2
    have d3 := S8.out.res.c3
    have f3 := S8.out.res.f 3
    have d4 := S8.out.res.c4
    have f4 := S8.out.res.f 4
    have d5 := S8.out.res.c5
    have f5 := S8.out.res.f 5
    have d6 := S8.out.res.c6
    have f6 := S8.out.res.f 6
    have d7 := S8.out.res.c7
    have f7 := S8.out.res.f 7
    refine wpAnyH_ready (rs := [9]) (by kernel_rfl) (by simp) (AllReadyH.cons rfl (fun K hK => ?_) AllReadyH.nil)
    go_simp
    clear d0 d1 d2 d3 d4 d5 d6 d7 f0 f1 f2 f3 f4 f5 f6 f7
    refine hK.out _ _ ?_ (fun hHeld => ?_)
    · exact frame_cells (S8.out.var.otherEight (c := w.heap.size) (by omega) a q y0 y1 y2 y3 y4 (.slice none 0 0))
    clear hK K
    try simp only [List.getElem_toArray, List.getElem_cons_succ, List.getElem_cons_zero, Act.put, List.setIfInBounds_toArray, List.set_cons_zero, List.set_cons_succ]
    refine wpAnyH_take (i := 10) (v := ?_) rfl (by kernel_rfl) (by kernel_rfl) (by kernel_rfl) (fun _ _ _ h => h) (Or.inl ⟨by rfl, ?_⟩) (by assumption) ?_
    rotate_left
    · (intro w hSw; (try dsimp only at hSw); go_simp; (try with_reducible rfl))
    try simp only [List.getElem_toArray, List.getElem_cons_succ, List.getElem_cons_zero, Act.put, List.setIfInBounds_toArray, List.set_cons_zero, List.set_cons_succ]
    refine wpAnyH_done (by kernel_rfl) ?_ _
    change Exit.then _ _ _ _ (setEight w8 w.heap.size a q y0 y1 y2 y3 y4 (.slice none 0 0))
    obtain ⟨SF, BF, OF⟩ := S8.out.fin a q y0 y1 y2 y3 y4 (.slice none 0 0)
    generalize setEight w8 w.heap.size a q y0 y1 y2 y3 y4 (.slice none 0 0) = wz at SF BF OF ⊢
    have e0 := SF.c0
    have e1 := SF.c1
    have e2 := SF.c2
    have e3 := SF.c3
    have e4 := SF.c4
    have e5 := SF.c5
    have e6 := SF.c6
    have e7 := SF.c7
    go_wp2_with fail
    exact bodyPost_ret (v := .tuple #[.agg #[.int .i64 a, .int .i64 q, .int .i64 y0, .int .i64 y1, .int .i64 y2, .int .i64 y3, .int .i64 y4, .slice none 0 0], .bool false]) (by simp [results, Try.results134, go_sem, e0, e1, e2, e3, e4, e5, e6, e7]) rfl ⟨_, _, by rw [show isFrame ⟨a, q, y0, y1, y2, y3, y4, []⟩ = false from HI.out]; rfl, OF, BF⟩
  · have hfbl := frameBytes_small HI.out
    obtain ⟨fb, hfb⟩ : ∃ fb, frameBytes ⟨a, q, y0, y1, y2, y3, y4, []⟩ = fb := ⟨_, rfl⟩
    rw [hfb] at hfbl
    have HFB := Lib.hid hfb; have HFL := Lib.hid hfbl; clear hfb hfbl
    have hdlt : 0 ≤ 1048576 := by exact Nat.zero_le _
    have HDLT := Lib.hid hdlt; clear hdlt
    have HFL1 : Hid (fb.length ≤ 9223372036854775807) := Lib.hid (by have := HFL.out; omega)
    have HFL2 : Hid (n + 9 ≤ 9223372036854775807) := Lib.hid (by have := HXL.out; have := HXM.out; omega)
    refine wp_region_held_drew (S := fun w' => w'.cell? ⟨w.heap.size + 1, 0, none⟩ = some (.int .i64 a) ∧ w'.cell? ⟨w.heap.size + 1, 1, none⟩ = some (.int .i64 q) ∧ w'.cell? ⟨w.heap.size + 1, 2, none⟩ = some (.int .i64 y0) ∧ w'.cell? ⟨w.heap.size + 1, 3, none⟩ = some (.int .i64 y1) ∧ w'.cell? ⟨w.heap.size + 1, 4, none⟩ = some (.int .i64 y2) ∧ w'.cell? ⟨w.heap.size + 1, 5, none⟩ = some (.int .i64 y3) ∧ w'.cell? ⟨w.heap.size + 1, 6, none⟩ = some (.int .i64 y4) ∧ w'.cell? ⟨w.heap.size + 1, 7, none⟩ = some (.slice none 0 0)) (by kernel_rfl) (frame_cells S7.out.var) (fun hHeld => ?_)
    refine wpAnyH_take (i := 0) (v := ?_) rfl (by kernel_rfl) (by kernel_rfl) (by kernel_rfl) (fun _ _ _ h => h) (Or.inl ⟨by rfl, ?_⟩) (by assumption) ?_
    rotate_left
    · (intro w hSw; (try dsimp only at hSw); go_simp; (try with_reducible rfl))
    try simp only [List.getElem_toArray, List.getElem_cons_succ, List.getElem_cons_zero, Act.put, List.setIfInBounds_toArray, List.set_cons_zero, List.set_cons_succ]
    refine wpAnyH_take (i := 1) (v := ?_) rfl (by kernel_rfl) (by kernel_rfl) (by kernel_rfl) (fun _ _ _ h => h) (Or.inl ⟨by rfl, ?_⟩) (by assumption) ?_
    rotate_left
    · (intro w hSw; (try dsimp only at hSw); go_simp; (try with_reducible rfl))
    try simp only [List.getElem_toArray, List.getElem_cons_succ, List.getElem_cons_zero, Act.put, List.setIfInBounds_toArray, List.set_cons_zero, List.set_cons_succ]
    refine wpAnyH_ready (rs := [2]) (by kernel_rfl) (by simp) (AllReadyH.cons rfl (fun K hK => ?_) AllReadyH.nil)
    go_simp
    refine (sIsFrame_any _ _ _ _ _ _ _ _ _ _ _ R7.out HDLT.out).mono ?_
    rintro e w8 ⟨rfl, b8⟩
    rw [HI.out]
    have S8 := Lib.hid (S7.out.call b8)
    have R8 := Lib.hid (R7.out.below b8)
    clear b8
    go_wp2_with fail
    refine hK.out _ _ ?_ (fun hHeld => ?_)
    · exact frame_cells S8.out.var
    clear hK K
    try simp only [List.getElem_toArray, List.getElem_cons_succ, List.getElem_cons_zero, Act.put, List.setIfInBounds_toArray, List.set_cons_zero, List.set_cons_succ]
    refine wpAnyH_take (i := 3) (v := ?_) rfl (by kernel_rfl) (by kernel_rfl) (by kernel_rfl) (fun _ _ _ h => h) (Or.inl ⟨by rfl, ?_⟩) (by assumption) ?_
    rotate_left
    · (intro w hSw; (try dsimp only at hSw); go_simp; (try with_reducible rfl))
    try simp only [List.getElem_toArray, List.getElem_cons_succ, List.getElem_cons_zero, Act.put, List.setIfInBounds_toArray, List.set_cons_zero, List.set_cons_succ]
    refine wpAnyH_take (i := 4) (v := ?_) rfl (by kernel_rfl) (by kernel_rfl) (by kernel_rfl) (fun _ _ _ h => h) (Or.inl ⟨by rfl, ?_⟩) (by assumption) ?_
    rotate_left
    · (intro w hSw; (try dsimp only at hSw); go_simp; (try with_reducible rfl))
    try simp only [List.getElem_toArray, List.getElem_cons_succ, List.getElem_cons_zero, Act.put, List.setIfInBounds_toArray, List.set_cons_zero, List.set_cons_succ]
    refine wpAnyH_take (i := 6) (v := ?_) rfl (by kernel_rfl) (by kernel_rfl) (by kernel_rfl) (fun _ _ _ h => h) (Or.inl ⟨by rfl, ?_⟩) (by assumption) ?_
    rotate_left
    · (intro w hSw; (try dsimp only at hSw); go_simp; (try with_reducible rfl))
    try simp only [List.getElem_toArray, List.getElem_cons_succ, List.getElem_cons_zero, Act.put, List.setIfInBounds_toArray, List.set_cons_zero, List.set_cons_succ]
    refine wpAnyH_ready (rs := [5]) (by kernel_rfl) (by simp) (AllReadyH.cons rfl (fun K hK => ?_) AllReadyH.nil)
    go_simp
    refine (l06Body_any _ _ _ _ _ _ _ _ _ _ _ R8.out HDLT.out HI.out).mono ?_
    rintro e w9 m9
    rw [HFB.out] at m9
    obtain ⟨p9, c9, rfl, -, r9, b9⟩ := m9.get
    have S9 := Lib.hid (S8.out.call b9)
    have R9 := Lib.hid r9
    clear b9 m9 r9
    go_wp2_with fail
    refine hK.out _ _ ?_ (fun hHeld => ?_)
    · exact frame_cells S9.out.var
    clear hK K
    try simp only [List.getElem_toArray, List.getElem_cons_succ, List.getElem_cons_zero, Act.put, List.setIfInBounds_toArray, List.set_cons_zero, List.set_cons_succ]
    refine wpAnyH_ready (rs := [7]) (by kernel_rfl) (by simp) (AllReadyH.cons rfl (fun K hK => ?_) AllReadyH.nil)
    go_simp
    refine (same_any _ _ _ _ _ _ _ _ _ R9.out (HXR.out.below S9.out.below) HFL1.out HFL2.out).mono ?_
    rintro e w10 ⟨rfl, q10, rfl⟩
    have S10 := Lib.hid (S9.out.call (below_drewN' (Below.refl _ _) q10))
    go_wp2_with fail
    refine hK.out _ _ ?_ (fun hHeld => ?_)
    · exact frame_cells S10.out.var
    clear hK K
    try simp only [List.getElem_toArray, List.getElem_cons_succ, List.getElem_cons_zero, Act.put, List.setIfInBounds_toArray, List.set_cons_zero, List.set_cons_succ]
    refine wpAnyH_take (i := 8) (v := ?_) rfl (by kernel_rfl) (by kernel_rfl) (by kernel_rfl) (fun _ _ _ h => h) (Or.inl ⟨by rfl, ?_⟩) (by assumption) ?_
    rotate_left
    · (intro w hSw; (try dsimp only at hSw); go_simp; (try with_reducible rfl))
    try simp only [List.getElem_toArray, List.getElem_cons_succ, List.getElem_cons_zero, Act.put, List.setIfInBounds_toArray, List.set_cons_zero, List.set_cons_succ]
    have d0 := S10.out.res.c0
    have f0 := S10.out.res.f 0
    have d1 := S10.out.res.c1
    have f1 := S10.out.res.f 1
    have d2 := S10.out.res.c2
    have f2 := S10.out.res.f 2
    have d3 := S10.out.res.c3
    have f3 := S10.out.res.f 3
    have d4 := S10.out.res.c4
    have f4 := S10.out.res.f 4
    have d5 := S10.out.res.c5
    have f5 := S10.out.res.f 5
    have d6 := S10.out.res.c6
    have f6 := S10.out.res.f 6
    have d7 := S10.out.res.c7
    have f7 := S10.out.res.f 7
    refine wpAnyH_ready (rs := [9]) (by kernel_rfl) (by simp) (AllReadyH.cons rfl (fun K hK => ?_) AllReadyH.nil)
    go_simp
    clear d0 d1 d2 d3 d4 d5 d6 d7 f0 f1 f2 f3 f4 f5 f6 f7
    refine hK.out _ _ ?_ (fun hHeld => ?_)
    · exact frame_cells (S10.out.var.otherEight (c := w.heap.size) (by omega) a q y0 y1 y2 y3 y4 (.slice none 0 0))
    clear hK K
    try simp only [List.getElem_toArray, List.getElem_cons_succ, List.getElem_cons_zero, Act.put, List.setIfInBounds_toArray, List.set_cons_zero, List.set_cons_succ]
    refine wpAnyH_take (i := 10) (v := ?_) rfl (by kernel_rfl) (by kernel_rfl) (by kernel_rfl) (fun _ _ _ h => h) (Or.inl ⟨by rfl, ?_⟩) (by assumption) ?_
    rotate_left
    · (intro w hSw; (try dsimp only at hSw); go_simp; (try with_reducible rfl))
    try simp only [List.getElem_toArray, List.getElem_cons_succ, List.getElem_cons_zero, Act.put, List.setIfInBounds_toArray, List.set_cons_zero, List.set_cons_succ]
    refine wpAnyH_done (by kernel_rfl) ?_ _
    change Exit.then _ _ _ _ (setEight (w9.drewN q10) w.heap.size a q y0 y1 y2 y3 y4 (.slice none 0 0))
    obtain ⟨SF, BF, OF⟩ := S10.out.fin a q y0 y1 y2 y3 y4 (.slice none 0 0)
    generalize setEight (w9.drewN q10) w.heap.size a q y0 y1 y2 y3 y4 (.slice none 0 0) = wz at SF BF OF ⊢
    have e0 := SF.c0
    have e1 := SF.c1
    have e2 := SF.c2
    have e3 := SF.c3
    have e4 := SF.c4
    have e5 := SF.c5
    have e6 := SF.c6
    have e7 := SF.c7
    go_wp2_with fail
    exact bodyPost_ret (v := .tuple #[.agg #[.int .i64 a, .int .i64 q, .int .i64 y0, .int .i64 y1, .int .i64 y2, .int .i64 y3, .int .i64 y4, .slice none 0 0], .bool (true && decide (fb = xs))]) (by simp [results, Try.results134, go_sem, e0, e1, e2, e3, e4, e5, e6, e7]) rfl ⟨_, _, by rw [show isFrame ⟨a, q, y0, y1, y2, y3, y4, []⟩ = true from HI.out, show frameBytes ⟨a, q, y0, y1, y2, y3, y4, []⟩ = fb from HFB.out] <;> rfl, OF, BF⟩
set_option maxHeartbeats 2000000 in
set_option maxRecDepth 100000 in
set_option linter.unusedVariables false in
set_option linter.unusedSimpArgs false in
theorem spS0_0 (b off e n : Nat) (w : World) (h a q y0 y1 y2 y3 y4 : Int) (d bs : List Int) (hb : b < w.heap.size) (hc : w.cell? ⟨b, off, none⟩ = some (.int .i64 h)) (hcap : n + 1 ≤ e + 1) (hcap2 : e + 1 ≤ 9223372036854775807) (hh : 0 ≤ h ∧ h ≤ 255) (hK : h / 64 = a) (hQ : h / 8 % 8 = q) (hx : (a != 0) = true) (hy : hasData a = false) (hce : ¬ e = 0) (hsmall : n < 8)
    :
    Calls Try.prog 134 #[.slice (some ⟨b, off, none⟩) (n + 1) (e + 1)] w (GivesFB w Fr.zero (.bool false)) := by
  have hd1 : IntKind.i64.wrap (h.tdiv 64) = a := by rw [Int.tdiv_eq_ediv_of_nonneg hh.1, IntKind.wrap_i64]; omega
  have hd2 : IntKind.i64.wrap (h.tdiv 8) = h / 8 := by rw [Int.tdiv_eq_ediv_of_nonneg hh.1, IntKind.wrap_i64]; omega
  have hd3 : (h / 8).tmod 8 = q := by rw [Int.tmod_eq_emod_of_nonneg (by omega)]; omega
  have hc1 : (w.alloc (.cells #[.int .i64 0, .int .i64 0, .int .i64 0, .int .i64 0, .int .i64 0, .int .i64 0, .int .i64 0, .slice none 0 0] 28)).cell? ⟨b, off, none⟩ = some (.int .i64 h) := (((Below.refl w.heap.size w).alloc (Nat.le_refl _) _).cell (p := ⟨b, off, none⟩) hb).trans hc
  have q1 : (0 : Int) < (n : Int) + 1 := by omega
  have q2 : ¬ (n : Int) + 1 = 0 := by omega
  have HX := Lib.hid hx; have HY := Lib.hid hy
  clear hx hy hQ hK
  go_enter Try.func134, Try.ntmps134
  go_upto_region 3 with fail
  go_region_held3 (fun w' => w'.cell? ⟨b, off, none⟩ = some (.int .i64 h)) (first | exact hc1 | go_keep) (fail)
  go_wp2_with fail
  refine (l06State_any _ _).mono ?_
  rintro e w1' ⟨rfl, rfl⟩
  rw [HX.out]
  have S1 := Lib.hid (ReadSt.start2 w a q)
  generalize (((w.alloc (.cells #[.int .i64 0, .int .i64 0, .int .i64 0, .int .i64 0, .int .i64 0, .int .i64 0, .int .i64 0, .slice none 0 0] 28)).alloc (.cells #[.int .i64 a, .int .i64 q, .int .i64 0, .int .i64 0, .int .i64 0, .int .i64 0, .int .i64 0, .slice none 0 0] 28)).drew) = w1 at S1 ⊢
  clear hc hc1 hd1 hd2 hd3
  have d0 := S1.out.res.c0
  have d1 := S1.out.res.c1
  have d2 := S1.out.res.c2
  have d3 := S1.out.res.c3
  have d4 := S1.out.res.c4
  have d5 := S1.out.res.c5
  have d6 := S1.out.res.c6
  have d7 := S1.out.res.c7
  have f0 := S1.out.res.f 0
  have f1 := S1.out.res.f 1
  have f2 := S1.out.res.f 2
  have f3 := S1.out.res.f 3
  have f4 := S1.out.res.f 4
  have f5 := S1.out.res.f 5
  have f6 := S1.out.res.f 6
  have f7 := S1.out.res.f 7
  go_wp2_with fail
  clear d0 d1 d2 d3 d4 d5 d6 d7 f0 f1 f2 f3 f4 f5 f6 f7
  change bodyPost _ _ _ _ _ (setEight w1 w.heap.size 0 0 0 0 0 0 0 (.slice none 0 0))
  obtain ⟨SF, BF, OF⟩ := S1.out.fin 0 0 0 0 0 0 0 (.slice none 0 0)
  generalize setEight w1 w.heap.size 0 0 0 0 0 0 0 (.slice none 0 0) = wz at SF BF OF ⊢
  have e0 := SF.c0
  have e1 := SF.c1
  have e2 := SF.c2
  have e3 := SF.c3
  have e4 := SF.c4
  have e5 := SF.c5
  have e6 := SF.c6
  have e7 := SF.c7
  exact bodyPost_ret (v := .tuple #[.agg #[.int .i64 0, .int .i64 0, .int .i64 0, .int .i64 0, .int .i64 0, .int .i64 0, .int .i64 0, .slice none 0 0], .bool false]) (by simp [results, Try.results134, go_sem, e0, e1, e2, e3, e4, e5, e6, e7]) rfl ⟨_, _, rfl, Own.nil_, BF⟩
set_option maxHeartbeats 2000000 in
set_option maxRecDepth 100000 in
set_option linter.unusedVariables false in
set_option linter.unusedSimpArgs false in
theorem spS1_0 (b off e n : Nat) (w : World) (h a q y0 y1 y2 y3 y4 : Int) (d bs : List Int) (hb : b < w.heap.size) (hc : w.cell? ⟨b, off, none⟩ = some (.int .i64 h)) (hcap : n + 1 ≤ e + 1) (hcap2 : e + 1 ≤ 9223372036854775807) (hh : 0 ≤ h ∧ h ≤ 255) (hK : h / 64 = a) (hQ : h / 8 % 8 = q) (hx : (a != 0) = true) (hy : hasData a = true) (hce : ¬ e = 0) (hsmall : n < 8)
    :
    Calls Try.prog 134 #[.slice (some ⟨b, off, none⟩) (n + 1) (e + 1)] w (GivesFB w Fr.zero (.bool false)) := by
  have hd1 : IntKind.i64.wrap (h.tdiv 64) = a := by rw [Int.tdiv_eq_ediv_of_nonneg hh.1, IntKind.wrap_i64]; omega
  have hd2 : IntKind.i64.wrap (h.tdiv 8) = h / 8 := by rw [Int.tdiv_eq_ediv_of_nonneg hh.1, IntKind.wrap_i64]; omega
  have hd3 : (h / 8).tmod 8 = q := by rw [Int.tmod_eq_emod_of_nonneg (by omega)]; omega
  have hc1 : (w.alloc (.cells #[.int .i64 0, .int .i64 0, .int .i64 0, .int .i64 0, .int .i64 0, .int .i64 0, .int .i64 0, .slice none 0 0] 28)).cell? ⟨b, off, none⟩ = some (.int .i64 h) := (((Below.refl w.heap.size w).alloc (Nat.le_refl _) _).cell (p := ⟨b, off, none⟩) hb).trans hc
  have q1 : (0 : Int) < (n : Int) + 1 := by omega
  have q2 : ¬ (n : Int) + 1 = 0 := by omega
  have HX := Lib.hid hx; have HY := Lib.hid hy
  clear hx hy hQ hK
  go_enter Try.func134, Try.ntmps134
  go_upto_region 3 with fail
  go_region_held3 (fun w' => w'.cell? ⟨b, off, none⟩ = some (.int .i64 h)) (first | exact hc1 | go_keep) (fail)
  go_wp2_with fail
  refine (l06State_any _ _).mono ?_
  rintro e w1' ⟨rfl, rfl⟩
  rw [HX.out]
  have S1 := Lib.hid (ReadSt.start2 w a q)
  generalize (((w.alloc (.cells #[.int .i64 0, .int .i64 0, .int .i64 0, .int .i64 0, .int .i64 0, .int .i64 0, .int .i64 0, .slice none 0 0] 28)).alloc (.cells #[.int .i64 a, .int .i64 q, .int .i64 0, .int .i64 0, .int .i64 0, .int .i64 0, .int .i64 0, .slice none 0 0] 28)).drew) = w1 at S1 ⊢
  clear hc hc1 hd1 hd2 hd3
  have d0 := S1.out.res.c0
  have d1 := S1.out.res.c1
  have d2 := S1.out.res.c2
  have d3 := S1.out.res.c3
  have d4 := S1.out.res.c4
  have d5 := S1.out.res.c5
  have d6 := S1.out.res.c6
  have d7 := S1.out.res.c7
  have f0 := S1.out.res.f 0
  have f1 := S1.out.res.f 1
  have f2 := S1.out.res.f 2
  have f3 := S1.out.res.f 3
  have f4 := S1.out.res.f 4
  have f5 := S1.out.res.f 5
  have f6 := S1.out.res.f 6
  have f7 := S1.out.res.f 7
  go_wp2_with fail
  clear d0 d1 d2 d3 d4 d5 d6 d7 f0 f1 f2 f3 f4 f5 f6 f7
  change bodyPost _ _ _ _ _ (setEight w1 w.heap.size 0 0 0 0 0 0 0 (.slice none 0 0))
  obtain ⟨SF, BF, OF⟩ := S1.out.fin 0 0 0 0 0 0 0 (.slice none 0 0)
  generalize setEight w1 w.heap.size 0 0 0 0 0 0 0 (.slice none 0 0) = wz at SF BF OF ⊢
  have e0 := SF.c0
  have e1 := SF.c1
  have e2 := SF.c2
  have e3 := SF.c3
  have e4 := SF.c4
  have e5 := SF.c5
  have e6 := SF.c6
  have e7 := SF.c7
  exact bodyPost_ret (v := .tuple #[.agg #[.int .i64 0, .int .i64 0, .int .i64 0, .int .i64 0, .int .i64 0, .int .i64 0, .int .i64 0, .slice none 0 0], .bool false]) (by simp [results, Try.results134, go_sem, e0, e1, e2, e3, e4, e5, e6, e7]) rfl ⟨_, _, rfl, Own.nil_, BF⟩
set_option maxHeartbeats 2000000 in
set_option maxRecDepth 100000 in
set_option linter.unusedVariables false in
set_option linter.unusedSimpArgs false in
theorem spS0_1 (b off e n : Nat) (w : World) (h a q y0 y1 y2 y3 y4 : Int) (d bs : List Int) (hb : b < w.heap.size) (hc : w.cell? ⟨b, off, none⟩ = some (.int .i64 h)) (hcap : n + 1 ≤ 0 + 1) (hcap2 : 0 + 1 ≤ 9223372036854775807) (hh : 0 ≤ h ∧ h ≤ 255) (hK : h / 64 = a) (hQ : h / 8 % 8 = q) (hx : (a != 0) = true) (hy : hasData a = false) (hsmall : n < 8)
    :
    Calls Try.prog 134 #[.slice (some ⟨b, off, none⟩) (n + 1) (0 + 1)] w (GivesFB w Fr.zero (.bool false)) := by
  have hd1 : IntKind.i64.wrap (h.tdiv 64) = a := by rw [Int.tdiv_eq_ediv_of_nonneg hh.1, IntKind.wrap_i64]; omega
  have hd2 : IntKind.i64.wrap (h.tdiv 8) = h / 8 := by rw [Int.tdiv_eq_ediv_of_nonneg hh.1, IntKind.wrap_i64]; omega
  have hd3 : (h / 8).tmod 8 = q := by rw [Int.tmod_eq_emod_of_nonneg (by omega)]; omega
  have hc1 : (w.alloc (.cells #[.int .i64 0, .int .i64 0, .int .i64 0, .int .i64 0, .int .i64 0, .int .i64 0, .int .i64 0, .slice none 0 0] 28)).cell? ⟨b, off, none⟩ = some (.int .i64 h) := (((Below.refl w.heap.size w).alloc (Nat.le_refl _) _).cell (p := ⟨b, off, none⟩) hb).trans hc
  have q1 : (0 : Int) < (n : Int) + 1 := by omega
  have q2 : ¬ (n : Int) + 1 = 0 := by omega
  have HX := Lib.hid hx; have HY := Lib.hid hy
  clear hx hy hQ hK
  go_enter Try.func134, Try.ntmps134
  go_upto_region 3 with fail
  go_region_held3 (fun w' => w'.cell? ⟨b, off, none⟩ = some (.int .i64 h)) (first | exact hc1 | go_keep) (fail)
  go_wp2_with fail
  refine (l06State_any _ _).mono ?_
  rintro e w1' ⟨rfl, rfl⟩
  rw [HX.out]
  have S1 := Lib.hid (ReadSt.start2 w a q)
  generalize (((w.alloc (.cells #[.int .i64 0, .int .i64 0, .int .i64 0, .int .i64 0, .int .i64 0, .int .i64 0, .int .i64 0, .slice none 0 0] 28)).alloc (.cells #[.int .i64 a, .int .i64 q, .int .i64 0, .int .i64 0, .int .i64 0, .int .i64 0, .int .i64 0, .slice none 0 0] 28)).drew) = w1 at S1 ⊢
  clear hc hc1 hd1 hd2 hd3
  have d0 := S1.out.res.c0
  have d1 := S1.out.res.c1
  have d2 := S1.out.res.c2
  have d3 := S1.out.res.c3
  have d4 := S1.out.res.c4
  have d5 := S1.out.res.c5
  have d6 := S1.out.res.c6
  have d7 := S1.out.res.c7
  have f0 := S1.out.res.f 0
  have f1 := S1.out.res.f 1
  have f2 := S1.out.res.f 2
  have f3 := S1.out.res.f 3
  have f4 := S1.out.res.f 4
  have f5 := S1.out.res.f 5
  have f6 := S1.out.res.f 6
  have f7 := S1.out.res.f 7
  go_wp2_with fail
  clear d0 d1 d2 d3 d4 d5 d6 d7 f0 f1 f2 f3 f4 f5 f6 f7
  change bodyPost _ _ _ _ _ (setEight w1 w.heap.size 0 0 0 0 0 0 0 (.slice none 0 0))
  obtain ⟨SF, BF, OF⟩ := S1.out.fin 0 0 0 0 0 0 0 (.slice none 0 0)
  generalize setEight w1 w.heap.size 0 0 0 0 0 0 0 (.slice none 0 0) = wz at SF BF OF ⊢
  have e0 := SF.c0
  have e1 := SF.c1
  have e2 := SF.c2
  have e3 := SF.c3
  have e4 := SF.c4
  have e5 := SF.c5
  have e6 := SF.c6
  have e7 := SF.c7
  exact bodyPost_ret (v := .tuple #[.agg #[.int .i64 0, .int .i64 0, .int .i64 0, .int .i64 0, .int .i64 0, .int .i64 0, .int .i64 0, .slice none 0 0], .bool false]) (by simp [results, Try.results134, go_sem, e0, e1, e2, e3, e4, e5, e6, e7]) rfl ⟨_, _, rfl, Own.nil_, BF⟩
set_option maxHeartbeats 2000000 in
set_option maxRecDepth 100000 in
set_option linter.unusedVariables false in
set_option linter.unusedSimpArgs false in
theorem spS1_1 (b off e n : Nat) (w : World) (h a q y0 y1 y2 y3 y4 : Int) (d bs : List Int) (hb : b < w.heap.size) (hc : w.cell? ⟨b, off, none⟩ = some (.int .i64 h)) (hcap : n + 1 ≤ 0 + 1) (hcap2 : 0 + 1 ≤ 9223372036854775807) (hh : 0 ≤ h ∧ h ≤ 255) (hK : h / 64 = a) (hQ : h / 8 % 8 = q) (hx : (a != 0) = true) (hy : hasData a = true) (hsmall : n < 8)
    :
    Calls Try.prog 134 #[.slice (some ⟨b, off, none⟩) (n + 1) (0 + 1)] w (GivesFB w Fr.zero (.bool false)) := by
  have hd1 : IntKind.i64.wrap (h.tdiv 64) = a := by rw [Int.tdiv_eq_ediv_of_nonneg hh.1, IntKind.wrap_i64]; omega
  have hd2 : IntKind.i64.wrap (h.tdiv 8) = h / 8 := by rw [Int.tdiv_eq_ediv_of_nonneg hh.1, IntKind.wrap_i64]; omega
  have hd3 : (h / 8).tmod 8 = q := by rw [Int.tmod_eq_emod_of_nonneg (by omega)]; omega
  have hc1 : (w.alloc (.cells #[.int .i64 0, .int .i64 0, .int .i64 0, .int .i64 0, .int .i64 0, .int .i64 0, .int .i64 0, .slice none 0 0] 28)).cell? ⟨b, off, none⟩ = some (.int .i64 h) := (((Below.refl w.heap.size w).alloc (Nat.le_refl _) _).cell (p := ⟨b, off, none⟩) hb).trans hc
  have q1 : (0 : Int) < (n : Int) + 1 := by omega
  have q2 : ¬ (n : Int) + 1 = 0 := by omega
  have HX := Lib.hid hx; have HY := Lib.hid hy
  clear hx hy hQ hK
  go_enter Try.func134, Try.ntmps134
  go_upto_region 3 with fail
  go_region_held3 (fun w' => w'.cell? ⟨b, off, none⟩ = some (.int .i64 h)) (first | exact hc1 | go_keep) (fail)
  go_wp2_with fail
  refine (l06State_any _ _).mono ?_
  rintro e w1' ⟨rfl, rfl⟩
  rw [HX.out]
  have S1 := Lib.hid (ReadSt.start2 w a q)
  generalize (((w.alloc (.cells #[.int .i64 0, .int .i64 0, .int .i64 0, .int .i64 0, .int .i64 0, .int .i64 0, .int .i64 0, .slice none 0 0] 28)).alloc (.cells #[.int .i64 a, .int .i64 q, .int .i64 0, .int .i64 0, .int .i64 0, .int .i64 0, .int .i64 0, .slice none 0 0] 28)).drew) = w1 at S1 ⊢
  clear hc hc1 hd1 hd2 hd3
  have d0 := S1.out.res.c0
  have d1 := S1.out.res.c1
  have d2 := S1.out.res.c2
  have d3 := S1.out.res.c3
  have d4 := S1.out.res.c4
  have d5 := S1.out.res.c5
  have d6 := S1.out.res.c6
  have d7 := S1.out.res.c7
  have f0 := S1.out.res.f 0
  have f1 := S1.out.res.f 1
  have f2 := S1.out.res.f 2
  have f3 := S1.out.res.f 3
  have f4 := S1.out.res.f 4
  have f5 := S1.out.res.f 5
  have f6 := S1.out.res.f 6
  have f7 := S1.out.res.f 7
  go_wp2_with fail
  clear d0 d1 d2 d3 d4 d5 d6 d7 f0 f1 f2 f3 f4 f5 f6 f7
  change bodyPost _ _ _ _ _ (setEight w1 w.heap.size 0 0 0 0 0 0 0 (.slice none 0 0))
  obtain ⟨SF, BF, OF⟩ := S1.out.fin 0 0 0 0 0 0 0 (.slice none 0 0)
  generalize setEight w1 w.heap.size 0 0 0 0 0 0 0 (.slice none 0 0) = wz at SF BF OF ⊢
  have e0 := SF.c0
  have e1 := SF.c1
  have e2 := SF.c2
  have e3 := SF.c3
  have e4 := SF.c4
  have e5 := SF.c5
  have e6 := SF.c6
  have e7 := SF.c7
  exact bodyPost_ret (v := .tuple #[.agg #[.int .i64 0, .int .i64 0, .int .i64 0, .int .i64 0, .int .i64 0, .int .i64 0, .int .i64 0, .slice none 0 0], .bool false]) (by simp [results, Try.results134, go_sem, e0, e1, e2, e3, e4, e5, e6, e7]) rfl ⟨_, _, rfl, Own.nil_, BF⟩
end

section
open Go.RowKit

set_option maxHeartbeats 2000000 in
set_option maxRecDepth 100000 in
set_option linter.unusedVariables false in
set_option linter.unusedSimpArgs false in
theorem sp01_0 (b off e n : Nat) (w : World) (h a q y0 y1 y2 y3 y4 : Int) (d bs : List Int) (hb : b < w.heap.size) (hc : w.cell? ⟨b, off, none⟩ = some (.int .i64 h)) (hcap : d.length + 2 ≤ e + 1) (hcap2 : e + 1 ≤ 9223372036854775807) (hh : 0 ≤ h ∧ h ≤ 255) (hK : h / 64 = a) (hQ : h / 8 % 8 = q) (hx : (a != 0) = false) (hy : hasData a = true) (hce : ¬ e = 1) (hdl : d.length ≤ 1024) (xs : List Int) (hxl : xs.length = d.length + 2) (hxr : Rd w (some ⟨b, off, none⟩) xs.length xs) (hxm : xs.length ≤ 1024)
    (hd : ∀ W o' c, Below w.heap.size w W → (o' = off + 2 ∨ d = []) → Calls Try.prog 157 #[.slice (some ⟨b, o', none⟩) d.length c] W (Makes 2 W d)) :
    Calls Try.prog 134 #[.slice (some ⟨b, off, none⟩) (d.length + 2) (e + 1)] w (GivesFB w ⟨a, q, 0, 0, 0, 0, 0, d⟩ (.bool (isFrame ⟨a, q, 0, 0, 0, 0, 0, d⟩ && decide (frameBytes ⟨a, q, 0, 0, 0, 0, 0, d⟩ = xs)))) := by
  have hd1 : IntKind.i64.wrap (h.tdiv 64) = a := by rw [Int.tdiv_eq_ediv_of_nonneg hh.1, IntKind.wrap_i64]; omega
  have hd2 : IntKind.i64.wrap (h.tdiv 8) = h / 8 := by rw [Int.tdiv_eq_ediv_of_nonneg hh.1, IntKind.wrap_i64]; omega
  have hd3 : (h / 8).tmod 8 = q := by rw [Int.tmod_eq_emod_of_nonneg (by omega)]; omega
  have hc1 : (w.alloc (.cells #[.int .i64 0, .int .i64 0, .int .i64 0, .int .i64 0, .int .i64 0, .int .i64 0, .int .i64 0, .slice none 0 0] 28)).cell? ⟨b, off, none⟩ = some (.int .i64 h) := (((Below.refl w.heap.size w).alloc (Nat.le_refl _) _).cell (p := ⟨b, off, none⟩) hb).trans hc
  have q1 : (0 : Int) < (d.length : Int) + 2 := by omega
  have q2 : ¬ (d.length : Int) + 2 = 0 := by omega
  have HX := Lib.hid hx; have HY := Lib.hid hy; have HD := Lib.hid hd; clear hd; have HXL := Lib.hid hxl; have HXR := Lib.hid (show Rd w (some ⟨b, off, none⟩) (d.length + 2) xs from by rw [← hxl]; exact hxr); have HXM := Lib.hid hxm; clear hxl hxr hxm
  clear hx hy hQ hK
  go_enter Try.func134, Try.ntmps134
  go_upto_region 3 with fail
  go_region_held3 (fun w' => w'.cell? ⟨b, off, none⟩ = some (.int .i64 h)) (first | exact hc1 | go_keep) (fail)
  go_wp2_with fail
  refine (l06State_any _ _).mono ?_
  rintro e w1' ⟨rfl, rfl⟩
  rw [HX.out]
  have S1 := Lib.hid (ReadSt.start2 w a q)
  generalize (((w.alloc (.cells #[.int .i64 0, .int .i64 0, .int .i64 0, .int .i64 0, .int .i64 0, .int .i64 0, .int .i64 0, .slice none 0 0] 28)).alloc (.cells #[.int .i64 a, .int .i64 q, .int .i64 0, .int .i64 0, .int .i64 0, .int .i64 0, .int .i64 0, .slice none 0 0] 28)).drew) = w1 at S1 ⊢
  clear hc hc1 hd1 hd2 hd3
  have c0 := S1.out.var.c0
  have lv := S1.out.var.lt
  go_wp2_with (go_at_call 129; refine (l06Data_any _ _).mono ?_; rintro e w4' ⟨rfl, rfl⟩; rw [HY.out])
  refine (HD.out _ _ _ S1.out.below (.inl (by omega))).mono ?_
  rintro e w5 m5
  obtain ⟨p5, cp5, rfl, o5, -, b5⟩ := m5.get
  have S5 := Lib.hid (S1.out.call b5)
  have O5 := Lib.hid (o5.more (base' := w.heap.size + 1 + 1) S1.out.size)
  clear c0 lv m5 o5 b5 S1
  have g7 := S5.out.var.c7
  have gf := S5.out.var.f 7
  go_upto_region 14 with fail
  clear g7 gf
  have S6 := Lib.hid (S5.out.data O5.out)
  generalize World.setCell w5 ⟨w.heap.size + 1, 7, none⟩ _ = w6 at S6 ⊢
  clear S5 O5
  obtain ⟨p9, c9, hpc⟩ : ∃ p9 c9, Value.slice p9 d.length c9 = .slice p5 d.length cp5 := ⟨_, _, rfl⟩
  have O9 := S6.out.own
  obtain ⟨ao', cap', e', -, RD⟩ := O9.get
  cases e'
  have HB9 := Lib.hid RD
  clear RD O9 hpc
  have S7 := Lib.hid (S6.out.call (Below.drew (Below.refl w6.heap.size w6)))
  have R7 := Lib.hid (HB9.out.below (Below.drew (Below.refl w6.heap.size w6)))
  obtain ⟨b1, hb1⟩ : ∃ b1, isFrame ⟨a, q, 0, 0, 0, 0, 0, d⟩ = b1 := ⟨_, rfl⟩
  have HI := Lib.hid hb1; clear hb1
  cases b1
  · refine wp_region_held_drew (S := fun w' => w'.cell? ⟨w.heap.size + 1, 0, none⟩ = some (.int .i64 a) ∧ w'.cell? ⟨w.heap.size + 1, 1, none⟩ = some (.int .i64 q) ∧ w'.cell? ⟨w.heap.size + 1, 2, none⟩ = some (.int .i64 0) ∧ w'.cell? ⟨w.heap.size + 1, 3, none⟩ = some (.int .i64 0) ∧ w'.cell? ⟨w.heap.size + 1, 4, none⟩ = some (.int .i64 0) ∧ w'.cell? ⟨w.heap.size + 1, 5, none⟩ = some (.int .i64 0) ∧ w'.cell? ⟨w.heap.size + 1, 6, none⟩ = some (.int .i64 0) ∧ w'.cell? ⟨w.heap.size + 1, 7, none⟩ = some (.slice p5 d.length cp5)) (by kernel_rfl) (frame_cells S7.out.var) (fun hHeld => ?_)
    refine wpAnyH_take (i := 0) (v := ?_) rfl (by kernel_rfl) (by kernel_rfl) (by kernel_rfl) (fun _ _ _ h => h) (Or.inl ⟨by rfl, ?_⟩) (by assumption) ?_
    rotate_left
    · (intro w hSw; (try dsimp only at hSw); go_simp; (try with_reducible rfl))
    try simp only [List.getElem_toArray, List.getElem_cons_succ, List.getElem_cons_zero, Act.put, List.setIfInBounds_toArray, List.set_cons_zero, List.set_cons_succ]
    refine wpAnyH_take (i := 1) (v := ?_) rfl (by kernel_rfl) (by kernel_rfl) (by kernel_rfl) (fun _ _ _ h => h) (Or.inl ⟨by rfl, ?_⟩) (by assumption) ?_
    rotate_left
    · (intro w hSw; (try dsimp only at hSw); go_simp; (try with_reducible rfl))
    try simp only [List.getElem_toArray, List.getElem_cons_succ, List.getElem_cons_zero, Act.put, List.setIfInBounds_toArray, List.set_cons_zero, List.set_cons_succ]
    refine wpAnyH_ready (rs := [2]) (by kernel_rfl) (by simp) (AllReadyH.cons rfl (fun K hK => ?_) AllReadyH.nil)
    go_simp
    refine (sIsFrame_any _ _ _ _ _ _ _ _ _ _ _ R7.out (by omega)).mono ?_
    rintro e w8 ⟨rfl, b8⟩
    rw [HI.out]
    have S8 := Lib.hid (S7.out.call b8)
    clear b8
    go_wp2_with fail
    refine hK.out _ _ ?_ (fun hHeld => ?_)
    · exact frame_cells S8.out.var
    clear hK K
    try simp only [List.getElem_toArray, List.getElem_cons_succ, List.getElem_cons_zero, Act.put, List.setIfInBounds_toArray, List.set_cons_zero, List.set_cons_succ]
    refine wpAnyH_take (i := 3) (v := ?_) rfl (by kernel_rfl) (by kernel_rfl) (by kernel_rfl) (fun _ _ _ h => h) (Or.inl ⟨by rfl, ?_⟩) (by assumption) ?_
    rotate_left
    · (intro w hSw; (try dsimp only at hSw); go_simp; (try with_reducible rfl))
    try simp only [List.getElem_toArray, List.getElem_cons_succ, List.getElem_cons_zero, Act.put, List.setIfInBounds_toArray, List.set_cons_zero, List.set_cons_succ]
    refine wpAnyH_take (i := 4) (v := undef) rfl (by kernel_rfl) (by kernel_rfl) (by kernel_rfl) (fun _ _ _ h => h) (Or.inr ⟨by rfl, rfl⟩) (by assumption) ?_
    try simp only [List.getElem_toArray, List.getElem_cons_succ, List.getElem_cons_zero, Act.put, List.setIfInBounds_toArray, List.set_cons_zero, List.set_cons_succ]
    refine wpAnyH_take (i := 5) (v := undef) rfl (by kernel_rfl) (by kernel_rfl) (by kernel_rfl) (fun _ _ _ h => h) (Or.inr ⟨by rfl, rfl⟩) (by assumption) ?_
    try simp only [List.getElem_toArray, List.getElem_cons_succ, List.getElem_cons_zero, Act.put, List.setIfInBounds_toArray, List.set_cons_zero, List.set_cons_succ]
    refine wpAnyH_take (i := 6) (v := undef) rfl (by kernel_rfl) (by kernel_rfl) (by kernel_rfl) (fun _ _ _ h => h) (Or.inr ⟨by rfl, rfl⟩) (by assumption) ?_
    try simp only [List.getElem_toArray, List.getElem_cons_succ, List.getElem_cons_zero, Act.put, List.setIfInBounds_toArray, List.set_cons_zero, List.set_cons_succ]
    refine wpAnyH_take (i := 7) (v := undef) rfl (by kernel_rfl) (by kernel_rfl) (by kernel_rfl) (fun _ _ _ h => h) (Or.inr ⟨by rfl, rfl⟩) (by assumption) ?_
    try simp only [List.getElem_toArray, List.getElem_cons_succ, List.getElem_cons_zero, Act.put, List.setIfInBounds_toArray, List.set_cons_zero, List.set_cons_succ]
    refine wpAnyH_take (i := 8) (v := ?_) rfl (by kernel_rfl) (by kernel_rfl) (by kernel_rfl) (fun _ _ _ h => h) (Or.inl ⟨by rfl, ?_⟩) (by assumption) ?_
    rotate_left
    · (intro w hSw; (try dsimp only at hSw); go_simp; (try with_reducible rfl))
    try simp only [List.getElem_toArray, List.getElem_cons_succ, List.getElem_cons_zero, Act.put, List.setIfInBounds_toArray, List.set_cons_zero, List.set_cons_succ]
    have d0 := S8.out.res.c0
    have f0 := S8.out.res.f 0
    have d1 := S8.out.res.c1
    have f1 := S8.out.res.f 1
    have d2 := S8.out.res.c2
    have f2 := S8.out.res.f 2
    have d3 := S8.out.res.c3
    have f3 := S8.out.res.f 3
    have d4 := S8.out.res.c4
    have f4 := S8.out.res.f 4
    have d5 := S8.out.res.c5
    have f5 := S8.out.res.f 5
    have d6 := S8.out.res.c6
    have f6 := S8.out.res.f 6
    have d7 := S8.out.res.c7
    have f7 := S8.out.res.f 7
    refine wpAnyH_ready (rs := [9]) (by kernel_rfl) (by simp) (AllReadyH.cons rfl (fun K hK => ?_) AllReadyH.nil)
    go_simp
    clear d0 d1 d2 d3 d4 d5 d6 d7 f0 f1 f2 f3 f4 f5 f6 f7
    refine hK.out _ _ ?_ (fun hHeld => ?_)
    · exact frame_cells (S8.out.var.otherEight (c := w.heap.size) (by omega) a q 0 0 0 0 0 (.slice p5 d.length cp5))
    clear hK K
    try simp only [List.getElem_toArray, List.getElem_cons_succ, List.getElem_cons_zero, Act.put, List.setIfInBounds_toArray, List.set_cons_zero, List.set_cons_succ]
    refine wpAnyH_take (i := 10) (v := ?_) rfl (by kernel_rfl) (by kernel_rfl) (by kernel_rfl) (fun _ _ _ h => h) (Or.inl ⟨by rfl, ?_⟩) (by assumption) ?_
    rotate_left
    · (intro w hSw; (try dsimp only at hSw); go_simp; (try with_reducible rfl))
    try simp only [List.getElem_toArray, List.getElem_cons_succ, List.getElem_cons_zero, Act.put, List.setIfInBounds_toArray, List.set_cons_zero, List.set_cons_succ]
    refine wpAnyH_done (by kernel_rfl) ?_ _
    change Exit.then _ _ _ _ (setEight w8 w.heap.size a q 0 0 0 0 0 (.slice p5 d.length cp5))
    obtain ⟨SF, BF, OF⟩ := S8.out.fin a q 0 0 0 0 0 (.slice p5 d.length cp5)
    generalize setEight w8 w.heap.size a q 0 0 0 0 0 (.slice p5 d.length cp5) = wz at SF BF OF ⊢
    have e0 := SF.c0
    have e1 := SF.c1
    have e2 := SF.c2
    have e3 := SF.c3
    have e4 := SF.c4
    have e5 := SF.c5
    have e6 := SF.c6
    have e7 := SF.c7
    go_wp2_with fail
    exact bodyPost_ret (v := .tuple #[.agg #[.int .i64 a, .int .i64 q, .int .i64 0, .int .i64 0, .int .i64 0, .int .i64 0, .int .i64 0, .slice p5 d.length cp5], .bool false]) (by simp [results, Try.results134, go_sem, e0, e1, e2, e3, e4, e5, e6, e7]) rfl ⟨_, _, by rw [show isFrame ⟨a, q, 0, 0, 0, 0, 0, d⟩ = false from HI.out]; rfl, OF, BF⟩
  · have hfbl := frameBytes_small HI.out
    obtain ⟨fb, hfb⟩ : ∃ fb, frameBytes ⟨a, q, 0, 0, 0, 0, 0, d⟩ = fb := ⟨_, rfl⟩
    rw [hfb] at hfbl
    have HFB := Lib.hid hfb; have HFL := Lib.hid hfbl; clear hfb hfbl
    have hdlt : d.length ≤ 1048576 := by omega
    have HDLT := Lib.hid hdlt; clear hdlt
    have HFL1 : Hid (fb.length ≤ 9223372036854775807) := Lib.hid (by have := HFL.out; omega)
    have HFL2 : Hid (d.length + 2 ≤ 9223372036854775807) := Lib.hid (by have := HXL.out; have := HXM.out; omega)
    refine wp_region_held_drew (S := fun w' => w'.cell? ⟨w.heap.size + 1, 0, none⟩ = some (.int .i64 a) ∧ w'.cell? ⟨w.heap.size + 1, 1, none⟩ = some (.int .i64 q) ∧ w'.cell? ⟨w.heap.size + 1, 2, none⟩ = some (.int .i64 0) ∧ w'.cell? ⟨w.heap.size + 1, 3, none⟩ = some (.int .i64 0) ∧ w'.cell? ⟨w.heap.size + 1, 4, none⟩ = some (.int .i64 0) ∧ w'.cell? ⟨w.heap.size + 1, 5, none⟩ = some (.int .i64 0) ∧ w'.cell? ⟨w.heap.size + 1, 6, none⟩ = some (.int .i64 0) ∧ w'.cell? ⟨w.heap.size + 1, 7, none⟩ = some (.slice p5 d.length cp5)) (by kernel_rfl) (frame_cells S7.out.var) (fun hHeld => ?_)
    refine wpAnyH_take (i := 0) (v := ?_) rfl (by kernel_rfl) (by kernel_rfl) (by kernel_rfl) (fun _ _ _ h => h) (Or.inl ⟨by rfl, ?_⟩) (by assumption) ?_
    rotate_left
    · (intro w hSw; (try dsimp only at hSw); go_simp; (try with_reducible rfl))
    try simp only [List.getElem_toArray, List.getElem_cons_succ, List.getElem_cons_zero, Act.put, List.setIfInBounds_toArray, List.set_cons_zero, List.set_cons_succ]
    refine wpAnyH_take (i := 1) (v := ?_) rfl (by kernel_rfl) (by kernel_rfl) (by kernel_rfl) (fun _ _ _ h => h) (Or.inl ⟨by rfl, ?_⟩) (by assumption) ?_
    rotate_left
    · (intro w hSw; (try dsimp only at hSw); go_simp; (try with_reducible rfl))
    try simp only [List.getElem_toArray, List.getElem_cons_succ, List.getElem_cons_zero, Act.put, List.setIfInBounds_toArray, List.set_cons_zero, List.set_cons_succ]
    refine wpAnyH_ready (rs := [2]) (by kernel_rfl) (by simp) (AllReadyH.cons rfl (fun K hK => ?_) AllReadyH.nil)
    go_simp
    refine (sIsFrame_any _ _ _ _ _ _ _ _ _ _ _ R7.out HDLT.out).mono ?_
    rintro e w8 ⟨rfl, b8⟩
    rw [HI.out]
    have S8 := Lib.hid (S7.out.call b8)
    have R8 := Lib.hid (R7.out.below b8)
    clear b8
    go_wp2_with fail
    refine hK.out _ _ ?_ (fun hHeld => ?_)
    · exact frame_cells S8.out.var
    clear hK K
    try simp only [List.getElem_toArray, List.getElem_cons_succ, List.getElem_cons_zero, Act.put, List.setIfInBounds_toArray, List.set_cons_zero, List.set_cons_succ]
    refine wpAnyH_take (i := 3) (v := ?_) rfl (by kernel_rfl) (by kernel_rfl) (by kernel_rfl) (fun _ _ _ h => h) (Or.inl ⟨by rfl, ?_⟩) (by assumption) ?_
    rotate_left
    · (intro w hSw; (try dsimp only at hSw); go_simp; (try with_reducible rfl))
    try simp only [List.getElem_toArray, List.getElem_cons_succ, List.getElem_cons_zero, Act.put, List.setIfInBounds_toArray, List.set_cons_zero, List.set_cons_succ]
    refine wpAnyH_take (i := 4) (v := ?_) rfl (by kernel_rfl) (by kernel_rfl) (by kernel_rfl) (fun _ _ _ h => h) (Or.inl ⟨by rfl, ?_⟩) (by assumption) ?_
    rotate_left
    · (intro w hSw; (try dsimp only at hSw); go_simp; (try with_reducible rfl))
    try simp only [List.getElem_toArray, List.getElem_cons_succ, List.getElem_cons_zero, Act.put, List.setIfInBounds_toArray, List.set_cons_zero, List.set_cons_succ]
    refine wpAnyH_take (i := 6) (v := ?_) rfl (by kernel_rfl) (by kernel_rfl) (by kernel_rfl) (fun _ _ _ h => h) (Or.inl ⟨by rfl, ?_⟩) (by assumption) ?_
    rotate_left
    · (intro w hSw; (try dsimp only at hSw); go_simp; (try with_reducible rfl))
    try simp only [List.getElem_toArray, List.getElem_cons_succ, List.getElem_cons_zero, Act.put, List.setIfInBounds_toArray, List.set_cons_zero, List.set_cons_succ]
    refine wpAnyH_ready (rs := [5]) (by kernel_rfl) (by simp) (AllReadyH.cons rfl (fun K hK => ?_) AllReadyH.nil)
    go_simp
    refine (l06Body_any _ _ _ _ _ _ _ _ _ _ _ R8.out HDLT.out HI.out).mono ?_
    rintro e w9 m9
    rw [HFB.out] at m9
    obtain ⟨p9, c9, rfl, -, r9, b9⟩ := m9.get
    have S9 := Lib.hid (S8.out.call b9)
    have R9 := Lib.hid r9
    clear b9 m9 r9
    go_wp2_with fail
    refine hK.out _ _ ?_ (fun hHeld => ?_)
    · exact frame_cells S9.out.var
    clear hK K
    try simp only [List.getElem_toArray, List.getElem_cons_succ, List.getElem_cons_zero, Act.put, List.setIfInBounds_toArray, List.set_cons_zero, List.set_cons_succ]
    refine wpAnyH_ready (rs := [7]) (by kernel_rfl) (by simp) (AllReadyH.cons rfl (fun K hK => ?_) AllReadyH.nil)
    go_simp
    refine (same_any _ _ _ _ _ _ _ _ _ R9.out (HXR.out.below S9.out.below) HFL1.out HFL2.out).mono ?_
    rintro e w10 ⟨rfl, q10, rfl⟩
    have S10 := Lib.hid (S9.out.call (below_drewN' (Below.refl _ _) q10))
    go_wp2_with fail
    refine hK.out _ _ ?_ (fun hHeld => ?_)
    · exact frame_cells S10.out.var
    clear hK K
    try simp only [List.getElem_toArray, List.getElem_cons_succ, List.getElem_cons_zero, Act.put, List.setIfInBounds_toArray, List.set_cons_zero, List.set_cons_succ]
    refine wpAnyH_take (i := 8) (v := ?_) rfl (by kernel_rfl) (by kernel_rfl) (by kernel_rfl) (fun _ _ _ h => h) (Or.inl ⟨by rfl, ?_⟩) (by assumption) ?_
    rotate_left
    · (intro w hSw; (try dsimp only at hSw); go_simp; (try with_reducible rfl))
    try simp only [List.getElem_toArray, List.getElem_cons_succ, List.getElem_cons_zero, Act.put, List.setIfInBounds_toArray, List.set_cons_zero, List.set_cons_succ]
    have d0 := S10.out.res.c0
    have f0 := S10.out.res.f 0
    have d1 := S10.out.res.c1
    have f1 := S10.out.res.f 1
    have d2 := S10.out.res.c2
    have f2 := S10.out.res.f 2
    have d3 := S10.out.res.c3
    have f3 := S10.out.res.f 3
    have d4 := S10.out.res.c4
    have f4 := S10.out.res.f 4
    have d5 := S10.out.res.c5
    have f5 := S10.out.res.f 5
    have d6 := S10.out.res.c6
    have f6 := S10.out.res.f 6
    have d7 := S10.out.res.c7
    have f7 := S10.out.res.f 7
    refine wpAnyH_ready (rs := [9]) (by kernel_rfl) (by simp) (AllReadyH.cons rfl (fun K hK => ?_) AllReadyH.nil)
    go_simp
    clear d0 d1 d2 d3 d4 d5 d6 d7 f0 f1 f2 f3 f4 f5 f6 f7
    refine hK.out _ _ ?_ (fun hHeld => ?_)
    · exact frame_cells (S10.out.var.otherEight (c := w.heap.size) (by omega) a q 0 0 0 0 0 (.slice p5 d.length cp5))
    clear hK K
    try simp only [List.getElem_toArray, List.getElem_cons_succ, List.getElem_cons_zero, Act.put, List.setIfInBounds_toArray, List.set_cons_zero, List.set_cons_succ]
    refine wpAnyH_take (i := 10) (v := ?_) rfl (by kernel_rfl) (by kernel_rfl) (by kernel_rfl) (fun _ _ _ h => h) (Or.inl ⟨by rfl, ?_⟩) (by assumption) ?_
    rotate_left
    · (intro w hSw; (try dsimp only at hSw); go_simp; (try with_reducible rfl))
    try simp only [List.getElem_toArray, List.getElem_cons_succ, List.getElem_cons_zero, Act.put, List.setIfInBounds_toArray, List.set_cons_zero, List.set_cons_succ]
    refine wpAnyH_done (by kernel_rfl) ?_ _
    change Exit.then _ _ _ _ (setEight (w9.drewN q10) w.heap.size a q 0 0 0 0 0 (.slice p5 d.length cp5))
    obtain ⟨SF, BF, OF⟩ := S10.out.fin a q 0 0 0 0 0 (.slice p5 d.length cp5)
    generalize setEight (w9.drewN q10) w.heap.size a q 0 0 0 0 0 (.slice p5 d.length cp5) = wz at SF BF OF ⊢
    have e0 := SF.c0
    have e1 := SF.c1
    have e2 := SF.c2
    have e3 := SF.c3
    have e4 := SF.c4
    have e5 := SF.c5
    have e6 := SF.c6
    have e7 := SF.c7
    go_wp2_with fail
    exact bodyPost_ret (v := .tuple #[.agg #[.int .i64 a, .int .i64 q, .int .i64 0, .int .i64 0, .int .i64 0, .int .i64 0, .int .i64 0, .slice p5 d.length cp5], .bool (true && decide (fb = xs))]) (by simp [results, Try.results134, go_sem, e0, e1, e2, e3, e4, e5, e6, e7]) rfl ⟨_, _, by rw [show isFrame ⟨a, q, 0, 0, 0, 0, 0, d⟩ = true from HI.out, show frameBytes ⟨a, q, 0, 0, 0, 0, 0, d⟩ = fb from HFB.out] <;> rfl, OF, BF⟩
set_option maxHeartbeats 2000000 in
set_option maxRecDepth 100000 in
set_option linter.unusedVariables false in
set_option linter.unusedSimpArgs false in
theorem sp01_1 (b off e n : Nat) (w : World) (h a q y0 y1 y2 y3 y4 : Int) (d bs : List Int) (hb : b < w.heap.size) (hc : w.cell? ⟨b, off, none⟩ = some (.int .i64 h)) (hcap : d.length + 2 ≤ 1 + 1) (hcap2 : 1 + 1 ≤ 9223372036854775807) (hh : 0 ≤ h ∧ h ≤ 255) (hK : h / 64 = a) (hQ : h / 8 % 8 = q) (hx : (a != 0) = false) (hy : hasData a = true) (hdl : d.length ≤ 1024) (xs : List Int) (hxl : xs.length = d.length + 2) (hxr : Rd w (some ⟨b, off, none⟩) xs.length xs) (hxm : xs.length ≤ 1024)
    (hd : ∀ W o' c, Below w.heap.size w W → (o' = off + 2 ∨ d = []) → Calls Try.prog 157 #[.slice (some ⟨b, o', none⟩) d.length c] W (Makes 2 W d)) :
    Calls Try.prog 134 #[.slice (some ⟨b, off, none⟩) (d.length + 2) (1 + 1)] w (GivesFB w ⟨a, q, 0, 0, 0, 0, 0, d⟩ (.bool (isFrame ⟨a, q, 0, 0, 0, 0, 0, d⟩ && decide (frameBytes ⟨a, q, 0, 0, 0, 0, 0, d⟩ = xs)))) := by
  have hd1 : IntKind.i64.wrap (h.tdiv 64) = a := by rw [Int.tdiv_eq_ediv_of_nonneg hh.1, IntKind.wrap_i64]; omega
  have hd2 : IntKind.i64.wrap (h.tdiv 8) = h / 8 := by rw [Int.tdiv_eq_ediv_of_nonneg hh.1, IntKind.wrap_i64]; omega
  have hd3 : (h / 8).tmod 8 = q := by rw [Int.tmod_eq_emod_of_nonneg (by omega)]; omega
  have hc1 : (w.alloc (.cells #[.int .i64 0, .int .i64 0, .int .i64 0, .int .i64 0, .int .i64 0, .int .i64 0, .int .i64 0, .slice none 0 0] 28)).cell? ⟨b, off, none⟩ = some (.int .i64 h) := (((Below.refl w.heap.size w).alloc (Nat.le_refl _) _).cell (p := ⟨b, off, none⟩) hb).trans hc
  have q1 : (0 : Int) < (d.length : Int) + 2 := by omega
  have q2 : ¬ (d.length : Int) + 2 = 0 := by omega
  have HX := Lib.hid hx; have HY := Lib.hid hy; have HD := Lib.hid hd; clear hd; have HXL := Lib.hid hxl; have HXR := Lib.hid (show Rd w (some ⟨b, off, none⟩) (d.length + 2) xs from by rw [← hxl]; exact hxr); have HXM := Lib.hid hxm; clear hxl hxr hxm
  clear hx hy hQ hK
  go_enter Try.func134, Try.ntmps134
  go_upto_region 3 with fail
  go_region_held3 (fun w' => w'.cell? ⟨b, off, none⟩ = some (.int .i64 h)) (first | exact hc1 | go_keep) (fail)
  go_wp2_with fail
  refine (l06State_any _ _).mono ?_
  rintro e w1' ⟨rfl, rfl⟩
  rw [HX.out]
  have S1 := Lib.hid (ReadSt.start2 w a q)
  generalize (((w.alloc (.cells #[.int .i64 0, .int .i64 0, .int .i64 0, .int .i64 0, .int .i64 0, .int .i64 0, .int .i64 0, .slice none 0 0] 28)).alloc (.cells #[.int .i64 a, .int .i64 q, .int .i64 0, .int .i64 0, .int .i64 0, .int .i64 0, .int .i64 0, .slice none 0 0] 28)).drew) = w1 at S1 ⊢
  clear hc hc1 hd1 hd2 hd3
  have c0 := S1.out.var.c0
  have lv := S1.out.var.lt
  go_wp2_with (go_at_call 129; refine (l06Data_any _ _).mono ?_; rintro e w4' ⟨rfl, rfl⟩; rw [HY.out])
  refine (HD.out _ _ _ S1.out.below (.inr (List.length_eq_zero_iff.1 (by omega)))).mono ?_
  rintro e w5 m5
  obtain ⟨p5, cp5, rfl, o5, -, b5⟩ := m5.get
  have S5 := Lib.hid (S1.out.call b5)
  have O5 := Lib.hid (o5.more (base' := w.heap.size + 1 + 1) S1.out.size)
  clear c0 lv m5 o5 b5 S1
  have g7 := S5.out.var.c7
  have gf := S5.out.var.f 7
  go_upto_region 14 with fail
  clear g7 gf
  have S6 := Lib.hid (S5.out.data O5.out)
  generalize World.setCell w5 ⟨w.heap.size + 1, 7, none⟩ _ = w6 at S6 ⊢
  clear S5 O5
  obtain ⟨p9, c9, hpc⟩ : ∃ p9 c9, Value.slice p9 d.length c9 = .slice p5 d.length cp5 := ⟨_, _, rfl⟩
  have O9 := S6.out.own
  obtain ⟨ao', cap', e', -, RD⟩ := O9.get
  cases e'
  have HB9 := Lib.hid RD
  clear RD O9 hpc
  have S7 := Lib.hid (S6.out.call (Below.drew (Below.refl w6.heap.size w6)))
  have R7 := Lib.hid (HB9.out.below (Below.drew (Below.refl w6.heap.size w6)))
  obtain ⟨b1, hb1⟩ : ∃ b1, isFrame ⟨a, q, 0, 0, 0, 0, 0, d⟩ = b1 := ⟨_, rfl⟩
  have HI := Lib.hid hb1; clear hb1
  cases b1
  · refine wp_region_held_drew (S := fun w' => w'.cell? ⟨w.heap.size + 1, 0, none⟩ = some (.int .i64 a) ∧ w'.cell? ⟨w.heap.size + 1, 1, none⟩ = some (.int .i64 q) ∧ w'.cell? ⟨w.heap.size + 1, 2, none⟩ = some (.int .i64 0) ∧ w'.cell? ⟨w.heap.size + 1, 3, none⟩ = some (.int .i64 0) ∧ w'.cell? ⟨w.heap.size + 1, 4, none⟩ = some (.int .i64 0) ∧ w'.cell? ⟨w.heap.size + 1, 5, none⟩ = some (.int .i64 0) ∧ w'.cell? ⟨w.heap.size + 1, 6, none⟩ = some (.int .i64 0) ∧ w'.cell? ⟨w.heap.size + 1, 7, none⟩ = some (.slice p5 d.length cp5)) (by kernel_rfl) (frame_cells S7.out.var) (fun hHeld => ?_)
    refine wpAnyH_take (i := 0) (v := ?_) rfl (by kernel_rfl) (by kernel_rfl) (by kernel_rfl) (fun _ _ _ h => h) (Or.inl ⟨by rfl, ?_⟩) (by assumption) ?_
    rotate_left
    · (intro w hSw; (try dsimp only at hSw); go_simp; (try with_reducible rfl))
    try simp only [List.getElem_toArray, List.getElem_cons_succ, List.getElem_cons_zero, Act.put, List.setIfInBounds_toArray, List.set_cons_zero, List.set_cons_succ]
    refine wpAnyH_take (i := 1) (v := ?_) rfl (by kernel_rfl) (by kernel_rfl) (by kernel_rfl) (fun _ _ _ h => h) (Or.inl ⟨by rfl, ?_⟩) (by assumption) ?_
    rotate_left
    · (intro w hSw; (try dsimp only at hSw); go_simp; (try with_reducible rfl))
    try simp only [List.getElem_toArray, List.getElem_cons_succ, List.getElem_cons_zero, Act.put, List.setIfInBounds_toArray, List.set_cons_zero, List.set_cons_succ]
    refine wpAnyH_ready (rs := [2]) (by kernel_rfl) (by simp) (AllReadyH.cons rfl (fun K hK => ?_) AllReadyH.nil)
    go_simp
    refine (sIsFrame_any _ _ _ _ _ _ _ _ _ _ _ R7.out (by omega)).mono ?_
    rintro e w8 ⟨rfl, b8⟩
    rw [HI.out]
    have S8 := Lib.hid (S7.out.call b8)
    clear b8
    go_wp2_with fail
    refine hK.out _ _ ?_ (fun hHeld => ?_)
    · exact frame_cells S8.out.var
    clear hK K
    try simp only [List.getElem_toArray, List.getElem_cons_succ, List.getElem_cons_zero, Act.put, List.setIfInBounds_toArray, List.set_cons_zero, List.set_cons_succ]
    refine wpAnyH_take (i := 3) (v := ?_) rfl (by kernel_rfl) (by kernel_rfl) (by kernel_rfl) (fun _ _ _ h => h) (Or.inl ⟨by rfl, ?_⟩) (by assumption) ?_
    rotate_left
    · (intro w hSw; (try dsimp only at hSw); go_simp; (try with_reducible rfl))
    try simp only [List.getElem_toArray, List.getElem_cons_succ, List.getElem_cons_zero, Act.put, List.setIfInBounds_toArray, List.set_cons_zero, List.set_cons_succ]
    refine wpAnyH_take (i := 4) (v := undef) rfl (by kernel_rfl) (by kernel_rfl) (by kernel_rfl) (fun _ _ _ h => h) (Or.inr ⟨by rfl, rfl⟩) (by assumption) ?_
    try simp only [List.getElem_toArray, List.getElem_cons_succ, List.getElem_cons_zero, Act.put, List.setIfInBounds_toArray, List.set_cons_zero, List.set_cons_succ]
    refine wpAnyH_take (i := 5) (v := undef) rfl (by kernel_rfl) (by kernel_rfl) (by kernel_rfl) (fun _ _ _ h => h) (Or.inr ⟨by rfl, rfl⟩) (by assumption) ?_
    try simp only [List.getElem_toArray, List.getElem_cons_succ, List.getElem_cons_zero, Act.put, List.setIfInBounds_toArray, List.set_cons_zero, List.set_cons_succ]
    refine wpAnyH_take (i := 6) (v := undef) rfl (by kernel_rfl) (by kernel_rfl) (by kernel_rfl) (fun _ _ _ h => h) (Or.inr ⟨by rfl, rfl⟩) (by assumption) ?_
    try simp only [List.getElem_toArray, List.getElem_cons_succ, List.getElem_cons_zero, Act.put, List.setIfInBounds_toArray, List.set_cons_zero, List.set_cons_succ]
    refine wpAnyH_take (i := 7) (v := undef) rfl (by kernel_rfl) (by kernel_rfl) (by kernel_rfl) (fun _ _ _ h => h) (Or.inr ⟨by rfl, rfl⟩) (by assumption) ?_
    try simp only [List.getElem_toArray, List.getElem_cons_succ, List.getElem_cons_zero, Act.put, List.setIfInBounds_toArray, List.set_cons_zero, List.set_cons_succ]
    refine wpAnyH_take (i := 8) (v := ?_) rfl (by kernel_rfl) (by kernel_rfl) (by kernel_rfl) (fun _ _ _ h => h) (Or.inl ⟨by rfl, ?_⟩) (by assumption) ?_
    rotate_left
    · (intro w hSw; (try dsimp only at hSw); go_simp; (try with_reducible rfl))
    try simp only [List.getElem_toArray, List.getElem_cons_succ, List.getElem_cons_zero, Act.put, List.setIfInBounds_toArray, List.set_cons_zero, List.set_cons_succ]
    have d0 := S8.out.res.c0
    have f0 := S8.out.res.f 0
    have d1 := S8.out.res.c1
    have f1 := S8.out.res.f 1
    have d2 := S8.out.res.c2
    have f2 := S8.out.res.f 2
    have d3 := S8.out.res.c3
    have f3 := S8.out.res.f 3
    have d4 := S8.out.res.c4
    have f4 := S8.out.res.f 4
    have d5 := S8.out.res.c5
    have f5 := S8.out.res.f 5
    have d6 := S8.out.res.c6
    have f6 := S8.out.res.f 6
    have d7 := S8.out.res.c7
    have f7 := S8.out.res.f 7
    refine wpAnyH_ready (rs := [9]) (by kernel_rfl) (by simp) (AllReadyH.cons rfl (fun K hK => ?_) AllReadyH.nil)
    go_simp
    clear d0 d1 d2 d3 d4 d5 d6 d7 f0 f1 f2 f3 f4 f5 f6 f7
    refine hK.out _ _ ?_ (fun hHeld => ?_)
    · exact frame_cells (S8.out.var.otherEight (c := w.heap.size) (by omega) a q 0 0 0 0 0 (.slice p5 d.length cp5))
    clear hK K
    try simp only [List.getElem_toArray, List.getElem_cons_succ, List.getElem_cons_zero, Act.put, List.setIfInBounds_toArray, List.set_cons_zero, List.set_cons_succ]
    refine wpAnyH_take (i := 10) (v := ?_) rfl (by kernel_rfl) (by kernel_rfl) (by kernel_rfl) (fun _ _ _ h => h) (Or.inl ⟨by rfl, ?_⟩) (by assumption) ?_
    rotate_left
    · (intro w hSw; (try dsimp only at hSw); go_simp; (try with_reducible rfl))
    try simp only [List.getElem_toArray, List.getElem_cons_succ, List.getElem_cons_zero, Act.put, List.setIfInBounds_toArray, List.set_cons_zero, List.set_cons_succ]
    refine wpAnyH_done (by kernel_rfl) ?_ _
    change Exit.then _ _ _ _ (setEight w8 w.heap.size a q 0 0 0 0 0 (.slice p5 d.length cp5))
    obtain ⟨SF, BF, OF⟩ := S8.out.fin a q 0 0 0 0 0 (.slice p5 d.length cp5)
    generalize setEight w8 w.heap.size a q 0 0 0 0 0 (.slice p5 d.length cp5) = wz at SF BF OF ⊢
    have e0 := SF.c0
    have e1 := SF.c1
    have e2 := SF.c2
    have e3 := SF.c3
    have e4 := SF.c4
    have e5 := SF.c5
    have e6 := SF.c6
    have e7 := SF.c7
    go_wp2_with fail
    exact bodyPost_ret (v := .tuple #[.agg #[.int .i64 a, .int .i64 q, .int .i64 0, .int .i64 0, .int .i64 0, .int .i64 0, .int .i64 0, .slice p5 d.length cp5], .bool false]) (by simp [results, Try.results134, go_sem, e0, e1, e2, e3, e4, e5, e6, e7]) rfl ⟨_, _, by rw [show isFrame ⟨a, q, 0, 0, 0, 0, 0, d⟩ = false from HI.out]; rfl, OF, BF⟩
  · have hfbl := frameBytes_small HI.out
    obtain ⟨fb, hfb⟩ : ∃ fb, frameBytes ⟨a, q, 0, 0, 0, 0, 0, d⟩ = fb := ⟨_, rfl⟩
    rw [hfb] at hfbl
    have HFB := Lib.hid hfb; have HFL := Lib.hid hfbl; clear hfb hfbl
    have hdlt : d.length ≤ 1048576 := by omega
    have HDLT := Lib.hid hdlt; clear hdlt
    have HFL1 : Hid (fb.length ≤ 9223372036854775807) := Lib.hid (by have := HFL.out; omega)
    have HFL2 : Hid (d.length + 2 ≤ 9223372036854775807) := Lib.hid (by have := HXL.out; have := HXM.out; omega)
    refine wp_region_held_drew (S := fun w' => w'.cell? ⟨w.heap.size + 1, 0, none⟩ = some (.int .i64 a) ∧ w'.cell? ⟨w.heap.size + 1, 1, none⟩ = some (.int .i64 q) ∧ w'.cell? ⟨w.heap.size + 1, 2, none⟩ = some (.int .i64 0) ∧ w'.cell? ⟨w.heap.size + 1, 3, none⟩ = some (.int .i64 0) ∧ w'.cell? ⟨w.heap.size + 1, 4, none⟩ = some (.int .i64 0) ∧ w'.cell? ⟨w.heap.size + 1, 5, none⟩ = some (.int .i64 0) ∧ w'.cell? ⟨w.heap.size + 1, 6, none⟩ = some (.int .i64 0) ∧ w'.cell? ⟨w.heap.size + 1, 7, none⟩ = some (.slice p5 d.length cp5)) (by kernel_rfl) (frame_cells S7.out.var) (fun hHeld => ?_)
    refine wpAnyH_take (i := 0) (v := ?_) rfl (by kernel_rfl) (by kernel_rfl) (by kernel_rfl) (fun _ _ _ h => h) (Or.inl ⟨by rfl, ?_⟩) (by assumption) ?_
    rotate_left
    · (intro w hSw; (try dsimp only at hSw); go_simp; (try with_reducible rfl))
    try simp only [List.getElem_toArray, List.getElem_cons_succ, List.getElem_cons_zero, Act.put, List.setIfInBounds_toArray, List.set_cons_zero, List.set_cons_succ]
    refine wpAnyH_take (i := 1) (v := ?_) rfl (by kernel_rfl) (by kernel_rfl) (by kernel_rfl) (fun _ _ _ h => h) (Or.inl ⟨by rfl, ?_⟩) (by assumption) ?_
    rotate_left
    · (intro w hSw; (try dsimp only at hSw); go_simp; (try with_reducible rfl))
    try simp only [List.getElem_toArray, List.getElem_cons_succ, List.getElem_cons_zero, Act.put, List.setIfInBounds_toArray, List.set_cons_zero, List.set_cons_succ]
    refine wpAnyH_ready (rs := [2]) (by kernel_rfl) (by simp) (AllReadyH.cons rfl (fun K hK => ?_) AllReadyH.nil)
    go_simp
    refine (sIsFrame_any _ _ _ _ _ _ _ _ _ _ _ R7.out HDLT.out).mono ?_
    rintro e w8 ⟨rfl, b8⟩
    rw [HI.out]
    have S8 := Lib.hid (S7.out.call b8)
    have R8 := Lib.hid (R7.out.below b8)
    clear b8
    go_wp2_with fail
    refine hK.out _ _ ?_ (fun hHeld => ?_)
    · exact frame_cells S8.out.var
    clear hK K
    try simp only [List.getElem_toArray, List.getElem_cons_succ, List.getElem_cons_zero, Act.put, List.setIfInBounds_toArray, List.set_cons_zero, List.set_cons_succ]
    refine wpAnyH_take (i := 3) (v := ?_) rfl (by kernel_rfl) (by kernel_rfl) (by kernel_rfl) (fun _ _ _ h => h) (Or.inl ⟨by rfl, ?_⟩) (by assumption) ?_
    rotate_left
    · (intro w hSw; (try dsimp only at hSw); go_simp; (try with_reducible rfl))
    try simp only [List.getElem_toArray, List.getElem_cons_succ, List.getElem_cons_zero, Act.put, List.setIfInBounds_toArray, List.set_cons_zero, List.set_cons_succ]
    refine wpAnyH_take (i := 4) (v := ?_) rfl (by kernel_rfl) (by kernel_rfl) (by kernel_rfl) (fun _ _ _ h => h) (Or.inl ⟨by rfl, ?_⟩) (by assumption) ?_
    rotate_left
    · (intro w hSw; (try dsimp only at hSw); go_simp; (try with_reducible rfl))
    try simp only [List.getElem_toArray, List.getElem_cons_succ, List.getElem_cons_zero, Act.put, List.setIfInBounds_toArray, List.set_cons_zero, List.set_cons_succ]
    refine wpAnyH_take (i := 6) (v := ?_) rfl (by kernel_rfl) (by kernel_rfl) (by kernel_rfl) (fun _ _ _ h => h) (Or.inl ⟨by rfl, ?_⟩) (by assumption) ?_
    rotate_left
    · (intro w hSw; (try dsimp only at hSw); go_simp; (try with_reducible rfl))
    try simp only [List.getElem_toArray, List.getElem_cons_succ, List.getElem_cons_zero, Act.put, List.setIfInBounds_toArray, List.set_cons_zero, List.set_cons_succ]
    refine wpAnyH_ready (rs := [5]) (by kernel_rfl) (by simp) (AllReadyH.cons rfl (fun K hK => ?_) AllReadyH.nil)
    go_simp
    refine (l06Body_any _ _ _ _ _ _ _ _ _ _ _ R8.out HDLT.out HI.out).mono ?_
    rintro e w9 m9
    rw [HFB.out] at m9
    obtain ⟨p9, c9, rfl, -, r9, b9⟩ := m9.get
    have S9 := Lib.hid (S8.out.call b9)
    have R9 := Lib.hid r9
    clear b9 m9 r9
    go_wp2_with fail
    refine hK.out _ _ ?_ (fun hHeld => ?_)
    · exact frame_cells S9.out.var
    clear hK K
    try simp only [List.getElem_toArray, List.getElem_cons_succ, List.getElem_cons_zero, Act.put, List.setIfInBounds_toArray, List.set_cons_zero, List.set_cons_succ]
    refine wpAnyH_ready (rs := [7]) (by kernel_rfl) (by simp) (AllReadyH.cons rfl (fun K hK => ?_) AllReadyH.nil)
    go_simp
    refine (same_any _ _ _ _ _ _ _ _ _ R9.out (HXR.out.below S9.out.below) HFL1.out HFL2.out).mono ?_
    rintro e w10 ⟨rfl, q10, rfl⟩
    have S10 := Lib.hid (S9.out.call (below_drewN' (Below.refl _ _) q10))
    go_wp2_with fail
    refine hK.out _ _ ?_ (fun hHeld => ?_)
    · exact frame_cells S10.out.var
    clear hK K
    try simp only [List.getElem_toArray, List.getElem_cons_succ, List.getElem_cons_zero, Act.put, List.setIfInBounds_toArray, List.set_cons_zero, List.set_cons_succ]
    refine wpAnyH_take (i := 8) (v := ?_) rfl (by kernel_rfl) (by kernel_rfl) (by kernel_rfl) (fun _ _ _ h => h) (Or.inl ⟨by rfl, ?_⟩) (by assumption) ?_
    rotate_left
    · (intro w hSw; (try dsimp only at hSw); go_simp; (try with_reducible rfl))
    try simp only [List.getElem_toArray, List.getElem_cons_succ, List.getElem_cons_zero, Act.put, List.setIfInBounds_toArray, List.set_cons_zero, List.set_cons_succ]
    have d0 := S10.out.res.c0
    have f0 := S10.out.res.f 0
    have d1 := S10.out.res.c1
    have f1 := S10.out.res.f 1
    have d2 := S10.out.res.c2
    have f2 := S10.out.res.f 2
    have d3 := S10.out.res.c3
    have f3 := S10.out.res.f 3
    have d4 := S10.out.res.c4
    have f4 := S10.out.res.f 4
    have d5 := S10.out.res.c5
    have f5 := S10.out.res.f 5
    have d6 := S10.out.res.c6
    have f6 := S10.out.res.f 6
    have d7 := S10.out.res.c7
    have f7 := S10.out.res.f 7
    refine wpAnyH_ready (rs := [9]) (by kernel_rfl) (by simp) (AllReadyH.cons rfl (fun K hK => ?_) AllReadyH.nil)
    go_simp
    clear d0 d1 d2 d3 d4 d5 d6 d7 f0 f1 f2 f3 f4 f5 f6 f7
    refine hK.out _ _ ?_ (fun hHeld => ?_)
    · exact frame_cells (S10.out.var.otherEight (c := w.heap.size) (by omega) a q 0 0 0 0 0 (.slice p5 d.length cp5))
    clear hK K
    try simp only [List.getElem_toArray, List.getElem_cons_succ, List.getElem_cons_zero, Act.put, List.setIfInBounds_toArray, List.set_cons_zero, List.set_cons_succ]
    refine wpAnyH_take (i := 10) (v := ?_) rfl (by kernel_rfl) (by kernel_rfl) (by kernel_rfl) (fun _ _ _ h => h) (Or.inl ⟨by rfl, ?_⟩) (by assumption) ?_
    rotate_left
    · (intro w hSw; (try dsimp only at hSw); go_simp; (try with_reducible rfl))
    try simp only [List.getElem_toArray, List.getElem_cons_succ, List.getElem_cons_zero, Act.put, List.setIfInBounds_toArray, List.set_cons_zero, List.set_cons_succ]
    refine wpAnyH_done (by kernel_rfl) ?_ _
    change Exit.then _ _ _ _ (setEight (w9.drewN q10) w.heap.size a q 0 0 0 0 0 (.slice p5 d.length cp5))
    obtain ⟨SF, BF, OF⟩ := S10.out.fin a q 0 0 0 0 0 (.slice p5 d.length cp5)
    generalize setEight (w9.drewN q10) w.heap.size a q 0 0 0 0 0 (.slice p5 d.length cp5) = wz at SF BF OF ⊢
    have e0 := SF.c0
    have e1 := SF.c1
    have e2 := SF.c2
    have e3 := SF.c3
    have e4 := SF.c4
    have e5 := SF.c5
    have e6 := SF.c6
    have e7 := SF.c7
    go_wp2_with fail
    exact bodyPost_ret (v := .tuple #[.agg #[.int .i64 a, .int .i64 q, .int .i64 0, .int .i64 0, .int .i64 0, .int .i64 0, .int .i64 0, .slice p5 d.length cp5], .bool (true && decide (fb = xs))]) (by simp [results, Try.results134, go_sem, e0, e1, e2, e3, e4, e5, e6, e7]) rfl ⟨_, _, by rw [show isFrame ⟨a, q, 0, 0, 0, 0, 0, d⟩ = true from HI.out, show frameBytes ⟨a, q, 0, 0, 0, 0, 0, d⟩ = fb from HFB.out] <;> rfl, OF, BF⟩
set_option maxHeartbeats 2000000 in
set_option maxRecDepth 100000 in
set_option linter.unusedVariables false in
set_option linter.unusedSimpArgs false in
theorem sp01n_0 (b off e n : Nat) (w : World) (h a q y0 y1 y2 y3 y4 : Int) (d bs : List Int) (hb : b < w.heap.size) (hc : w.cell? ⟨b, off, none⟩ = some (.int .i64 h)) (hcap : 1 ≤ e + 1) (hcap2 : e + 1 ≤ 9223372036854775807) (hh : 0 ≤ h ∧ h ≤ 255) (hK : h / 64 = a) (hQ : h / 8 % 8 = q) (hx : (a != 0) = false) (hy : hasData a = true) (hce : ¬ e = 0)
    :
    Calls Try.prog 134 #[.slice (some ⟨b, off, none⟩) (1) (e + 1)] w (GivesFB w Fr.zero (.bool false)) := by
  have hd1 : IntKind.i64.wrap (h.tdiv 64) = a := by rw [Int.tdiv_eq_ediv_of_nonneg hh.1, IntKind.wrap_i64]; omega
  have hd2 : IntKind.i64.wrap (h.tdiv 8) = h / 8 := by rw [Int.tdiv_eq_ediv_of_nonneg hh.1, IntKind.wrap_i64]; omega
  have hd3 : (h / 8).tmod 8 = q := by rw [Int.tmod_eq_emod_of_nonneg (by omega)]; omega
  have hc1 : (w.alloc (.cells #[.int .i64 0, .int .i64 0, .int .i64 0, .int .i64 0, .int .i64 0, .int .i64 0, .int .i64 0, .slice none 0 0] 28)).cell? ⟨b, off, none⟩ = some (.int .i64 h) := (((Below.refl w.heap.size w).alloc (Nat.le_refl _) _).cell (p := ⟨b, off, none⟩) hb).trans hc
  have q1 : (0 : Int) < (1 : Int) := by omega
  have q2 : ¬ (1 : Int) = 0 := by omega
  have HX := Lib.hid hx; have HY := Lib.hid hy
  clear hx hy hQ hK
  go_enter Try.func134, Try.ntmps134
  go_upto_region 3 with fail
  go_region_held3 (fun w' => w'.cell? ⟨b, off, none⟩ = some (.int .i64 h)) (first | exact hc1 | go_keep) (fail)
  go_wp2_with fail
  refine (l06State_any _ _).mono ?_
  rintro e w1' ⟨rfl, rfl⟩
  rw [HX.out]
  have S1 := Lib.hid (ReadSt.start2 w a q)
  generalize (((w.alloc (.cells #[.int .i64 0, .int .i64 0, .int .i64 0, .int .i64 0, .int .i64 0, .int .i64 0, .int .i64 0, .slice none 0 0] 28)).alloc (.cells #[.int .i64 a, .int .i64 q, .int .i64 0, .int .i64 0, .int .i64 0, .int .i64 0, .int .i64 0, .slice none 0 0] 28)).drew) = w1 at S1 ⊢
  clear hc hc1 hd1 hd2 hd3
  have c0 := S1.out.var.c0
  have lv := S1.out.var.lt
  have d0 := S1.out.res.c0
  have d1 := S1.out.res.c1
  have d2 := S1.out.res.c2
  have d3 := S1.out.res.c3
  have d4 := S1.out.res.c4
  have d5 := S1.out.res.c5
  have d6 := S1.out.res.c6
  have d7 := S1.out.res.c7
  have f0 := S1.out.res.f 0
  have f1 := S1.out.res.f 1
  have f2 := S1.out.res.f 2
  have f3 := S1.out.res.f 3
  have f4 := S1.out.res.f 4
  have f5 := S1.out.res.f 5
  have f6 := S1.out.res.f 6
  have f7 := S1.out.res.f 7
  go_wp2_with (go_at_call 129; refine (l06Data_any _ _).mono ?_; rintro e w4' ⟨rfl, rfl⟩; rw [HY.out])
  clear d0 d1 d2 d3 d4 d5 d6 d7 f0 f1 f2 f3 f4 f5 f6 f7
  change bodyPost _ _ _ _ _ (setEight w1 w.heap.size 0 0 0 0 0 0 0 (.slice none 0 0))
  obtain ⟨SF, BF, OF⟩ := S1.out.fin 0 0 0 0 0 0 0 (.slice none 0 0)
  generalize setEight w1 w.heap.size 0 0 0 0 0 0 0 (.slice none 0 0) = wz at SF BF OF ⊢
  have e0 := SF.c0
  have e1 := SF.c1
  have e2 := SF.c2
  have e3 := SF.c3
  have e4 := SF.c4
  have e5 := SF.c5
  have e6 := SF.c6
  have e7 := SF.c7
  exact bodyPost_ret (v := .tuple #[.agg #[.int .i64 0, .int .i64 0, .int .i64 0, .int .i64 0, .int .i64 0, .int .i64 0, .int .i64 0, .slice none 0 0], .bool false]) (by simp [results, Try.results134, go_sem, e0, e1, e2, e3, e4, e5, e6, e7]) rfl ⟨_, _, rfl, Own.nil_, BF⟩
set_option maxHeartbeats 2000000 in
set_option maxRecDepth 100000 in
set_option linter.unusedVariables false in
set_option linter.unusedSimpArgs false in
theorem sp01n_1 (b off e n : Nat) (w : World) (h a q y0 y1 y2 y3 y4 : Int) (d bs : List Int) (hb : b < w.heap.size) (hc : w.cell? ⟨b, off, none⟩ = some (.int .i64 h)) (hcap : 1 ≤ 0 + 1) (hcap2 : 0 + 1 ≤ 9223372036854775807) (hh : 0 ≤ h ∧ h ≤ 255) (hK : h / 64 = a) (hQ : h / 8 % 8 = q) (hx : (a != 0) = false) (hy : hasData a = true)
    :
    Calls Try.prog 134 #[.slice (some ⟨b, off, none⟩) (1) (0 + 1)] w (GivesFB w Fr.zero (.bool false)) := by
  have hd1 : IntKind.i64.wrap (h.tdiv 64) = a := by rw [Int.tdiv_eq_ediv_of_nonneg hh.1, IntKind.wrap_i64]; omega
  have hd2 : IntKind.i64.wrap (h.tdiv 8) = h / 8 := by rw [Int.tdiv_eq_ediv_of_nonneg hh.1, IntKind.wrap_i64]; omega
  have hd3 : (h / 8).tmod 8 = q := by rw [Int.tmod_eq_emod_of_nonneg (by omega)]; omega
  have hc1 : (w.alloc (.cells #[.int .i64 0, .int .i64 0, .int .i64 0, .int .i64 0, .int .i64 0, .int .i64 0, .int .i64 0, .slice none 0 0] 28)).cell? ⟨b, off, none⟩ = some (.int .i64 h) := (((Below.refl w.heap.size w).alloc (Nat.le_refl _) _).cell (p := ⟨b, off, none⟩) hb).trans hc
  have q1 : (0 : Int) < (1 : Int) := by omega
  have q2 : ¬ (1 : Int) = 0 := by omega
  have HX := Lib.hid hx; have HY := Lib.hid hy
  clear hx hy hQ hK
  go_enter Try.func134, Try.ntmps134
  go_upto_region 3 with fail
  go_region_held3 (fun w' => w'.cell? ⟨b, off, none⟩ = some (.int .i64 h)) (first | exact hc1 | go_keep) (fail)
  go_wp2_with fail
  refine (l06State_any _ _).mono ?_
  rintro e w1' ⟨rfl, rfl⟩
  rw [HX.out]
  have S1 := Lib.hid (ReadSt.start2 w a q)
  generalize (((w.alloc (.cells #[.int .i64 0, .int .i64 0, .int .i64 0, .int .i64 0, .int .i64 0, .int .i64 0, .int .i64 0, .slice none 0 0] 28)).alloc (.cells #[.int .i64 a, .int .i64 q, .int .i64 0, .int .i64 0, .int .i64 0, .int .i64 0, .int .i64 0, .slice none 0 0] 28)).drew) = w1 at S1 ⊢
  clear hc hc1 hd1 hd2 hd3
  have c0 := S1.out.var.c0
  have lv := S1.out.var.lt
  have d0 := S1.out.res.c0
  have d1 := S1.out.res.c1
  have d2 := S1.out.res.c2
  have d3 := S1.out.res.c3
  have d4 := S1.out.res.c4
  have d5 := S1.out.res.c5
  have d6 := S1.out.res.c6
  have d7 := S1.out.res.c7
  have f0 := S1.out.res.f 0
  have f1 := S1.out.res.f 1
  have f2 := S1.out.res.f 2
  have f3 := S1.out.res.f 3
  have f4 := S1.out.res.f 4
  have f5 := S1.out.res.f 5
  have f6 := S1.out.res.f 6
  have f7 := S1.out.res.f 7
  go_wp2_with (go_at_call 129; refine (l06Data_any _ _).mono ?_; rintro e w4' ⟨rfl, rfl⟩; rw [HY.out])
  clear d0 d1 d2 d3 d4 d5 d6 d7 f0 f1 f2 f3 f4 f5 f6 f7
  change bodyPost _ _ _ _ _ (setEight w1 w.heap.size 0 0 0 0 0 0 0 (.slice none 0 0))
  obtain ⟨SF, BF, OF⟩ := S1.out.fin 0 0 0 0 0 0 0 (.slice none 0 0)
  generalize setEight w1 w.heap.size 0 0 0 0 0 0 0 (.slice none 0 0) = wz at SF BF OF ⊢
  have e0 := SF.c0
  have e1 := SF.c1
  have e2 := SF.c2
  have e3 := SF.c3
  have e4 := SF.c4
  have e5 := SF.c5
  have e6 := SF.c6
  have e7 := SF.c7
  exact bodyPost_ret (v := .tuple #[.agg #[.int .i64 0, .int .i64 0, .int .i64 0, .int .i64 0, .int .i64 0, .int .i64 0, .int .i64 0, .slice none 0 0], .bool false]) (by simp [results, Try.results134, go_sem, e0, e1, e2, e3, e4, e5, e6, e7]) rfl ⟨_, _, rfl, Own.nil_, BF⟩
set_option maxHeartbeats 2000000 in
set_option maxRecDepth 100000 in
set_option linter.unusedVariables false in
set_option linter.unusedSimpArgs false in
theorem sp00_0 (b off e n : Nat) (w : World) (h a q y0 y1 y2 y3 y4 : Int) (d bs : List Int) (hb : b < w.heap.size) (hc : w.cell? ⟨b, off, none⟩ = some (.int .i64 h)) (hcap : n + 1 ≤ e + 1) (hcap2 : e + 1 ≤ 9223372036854775807) (hh : 0 ≤ h ∧ h ≤ 255) (hK : h / 64 = a) (hQ : h / 8 % 8 = q) (hx : (a != 0) = false) (hy : hasData a = false) (hce : ¬ e = 0) (xs : List Int) (hxl : xs.length = n + 1) (hxr : Rd w (some ⟨b, off, none⟩) xs.length xs) (hxm : xs.length ≤ 1024)
    :
    Calls Try.prog 134 #[.slice (some ⟨b, off, none⟩) (n + 1) (e + 1)] w (GivesFB w ⟨a, q, 0, 0, 0, 0, 0, []⟩ (.bool (isFrame ⟨a, q, 0, 0, 0, 0, 0, []⟩ && decide (frameBytes ⟨a, q, 0, 0, 0, 0, 0, []⟩ = xs)))) := by
  have hd1 : IntKind.i64.wrap (h.tdiv 64) = a := by rw [Int.tdiv_eq_ediv_of_nonneg hh.1, IntKind.wrap_i64]; omega
  have hd2 : IntKind.i64.wrap (h.tdiv 8) = h / 8 := by rw [Int.tdiv_eq_ediv_of_nonneg hh.1, IntKind.wrap_i64]; omega
  have hd3 : (h / 8).tmod 8 = q := by rw [Int.tmod_eq_emod_of_nonneg (by omega)]; omega
  have hc1 : (w.alloc (.cells #[.int .i64 0, .int .i64 0, .int .i64 0, .int .i64 0, .int .i64 0, .int .i64 0, .int .i64 0, .slice none 0 0] 28)).cell? ⟨b, off, none⟩ = some (.int .i64 h) := (((Below.refl w.heap.size w).alloc (Nat.le_refl _) _).cell (p := ⟨b, off, none⟩) hb).trans hc
  have q1 : (0 : Int) < (n : Int) + 1 := by omega
  have q2 : ¬ (n : Int) + 1 = 0 := by omega
  have HX := Lib.hid hx; have HY := Lib.hid hy; have HXL := Lib.hid hxl; have HXR := Lib.hid (show Rd w (some ⟨b, off, none⟩) (n + 1) xs from by rw [← hxl]; exact hxr); have HXM := Lib.hid hxm; clear hxl hxr hxm
  clear hx hy hQ hK
  go_enter Try.func134, Try.ntmps134
  go_upto_region 3 with fail
  go_region_held3 (fun w' => w'.cell? ⟨b, off, none⟩ = some (.int .i64 h)) (first | exact hc1 | go_keep) (fail)
  go_wp2_with fail
  refine (l06State_any _ _).mono ?_
  rintro e w1' ⟨rfl, rfl⟩
  rw [HX.out]
  have S1 := Lib.hid (ReadSt.start2 w a q)
  generalize (((w.alloc (.cells #[.int .i64 0, .int .i64 0, .int .i64 0, .int .i64 0, .int .i64 0, .int .i64 0, .int .i64 0, .slice none 0 0] 28)).alloc (.cells #[.int .i64 a, .int .i64 q, .int .i64 0, .int .i64 0, .int .i64 0, .int .i64 0, .int .i64 0, .slice none 0 0] 28)).drew) = w1 at S1 ⊢
  clear hc hc1 hd1 hd2 hd3
  have c0 := S1.out.var.c0
  have lv := S1.out.var.lt
  go_upto_region 14 with (go_at_call 129; refine (l06Data_any _ _).mono ?_; rintro e w4' ⟨rfl, rfl⟩; rw [HY.out])
  clear c0 lv
  obtain ⟨p9, c9, hpc⟩ : ∃ p9 c9, Value.slice p9 0 c9 = .slice none 0 0 := ⟨_, _, rfl⟩
  have O9 := S1.out.own
  obtain ⟨ao', cap', e', -, RD⟩ := O9.get
  cases e'
  have HB9 := Lib.hid RD
  clear RD O9 hpc
  have S7 := Lib.hid (S1.out.call (Below.drew (Below.refl w1.heap.size w1)))
  have R7 := Lib.hid (HB9.out.below (Below.drew (Below.refl w1.heap.size w1)))
  obtain ⟨b1, hb1⟩ : ∃ b1, isFrame ⟨a, q, 0, 0, 0, 0, 0, []⟩ = b1 := ⟨_, rfl⟩
  have HI := Lib.hid hb1; clear hb1
  cases b1
  · refine wp_region_held_drew (S := fun w' => w'.cell? ⟨w.heap.size + 1, 0, none⟩ = some (.int .i64 a) ∧ w'.cell? ⟨w.heap.size + 1, 1, none⟩ = some (.int .i64 q) ∧ w'.cell? ⟨w.heap.size + 1, 2, none⟩ = some (.int .i64 0) ∧ w'.cell? ⟨w.heap.size + 1, 3, none⟩ = some (.int .i64 0) ∧ w'.cell? ⟨w.heap.size + 1, 4, none⟩ = some (.int .i64 0) ∧ w'.cell? ⟨w.heap.size + 1, 5, none⟩ = some (.int .i64 0) ∧ w'.cell? ⟨w.heap.size + 1, 6, none⟩ = some (.int .i64 0) ∧ w'.cell? ⟨w.heap.size + 1, 7, none⟩ = some (.slice none 0 0)) (by kernel_rfl) (frame_cells S7.out.var) (fun hHeld => ?_)
    refine wpAnyH_take (i := 0) (v := ?_) rfl (by kernel_rfl) (by kernel_rfl) (by kernel_rfl) (fun _ _ _ h => h) (Or.inl ⟨by rfl, ?_⟩) (by assumption) ?_
    rotate_left
    · (intro w hSw; (try dsimp only at hSw); go_simp; (try with_reducible rfl))
    try simp only [List.getElem_toArray, List.getElem_cons_succ, List.getElem_cons_zero, Act.put, List.setIfInBounds_toArray, List.set_cons_zero, List.set_cons_succ]
    refine wpAnyH_take (i := 1) (v := ?_) rfl (by kernel_rfl) (by kernel_rfl) (by kernel_rfl) (fun _ _ _ h => h) (Or.inl ⟨by rfl, ?_⟩) (by assumption) ?_
    rotate_left
    · (intro w hSw; (try dsimp only at hSw); go_simp; (try with_reducible rfl))
    try simp only [List.getElem_toArray, List.getElem_cons_succ, List.getElem_cons_zero, Act.put, List.setIfInBounds_toArray, List.set_cons_zero, List.set_cons_succ]
    refine wpAnyH_ready (rs := [2]) (by kernel_rfl) (by simp) (AllReadyH.cons rfl (fun K hK => ?_) AllReadyH.nil)
    go_simp
    refine (sIsFrame_any _ _ _ _ _ _ _ _ _ _ _ R7.out (Nat.zero_le _)).mono ?_
    rintro e w8 ⟨rfl, b8⟩
    rw [HI.out]
    have S8 := Lib.hid (S7.out.call b8)
    clear b8
    go_wp2_with fail
    refine hK.out _ _ ?_ (fun hHeld => ?_)
    · exact frame_cells S8.out.var
    clear hK K
    try simp only [List.getElem_toArray, List.getElem_cons_succ, List.getElem_cons_zero, Act.put, List.setIfInBounds_toArray, List.set_cons_zero, List.set_cons_succ]
    refine wpAnyH_take (i := 3) (v := ?_) rfl (by kernel_rfl) (by kernel_rfl) (by kernel_rfl) (fun _ _ _ h => h) (Or.inl ⟨by rfl, ?_⟩) (by assumption) ?_
    rotate_left
    · (intro w hSw; (try dsimp only at hSw); go_simp; (try with_reducible rfl))
    try simp only [List.getElem_toArray, List.getElem_cons_succ, List.getElem_cons_zero, Act.put, List.setIfInBounds_toArray, List.set_cons_zero, List.set_cons_succ]
    refine wpAnyH_take (i := 4) (v := undef) rfl (by kernel_rfl) (by kernel_rfl) (by kernel_rfl) (fun _ _ _ h => h) (Or.inr ⟨by rfl, rfl⟩) (by assumption) ?_
    try simp only [List.getElem_toArray, List.getElem_cons_succ, List.getElem_cons_zero, Act.put, List.setIfInBounds_toArray, List.set_cons_zero, List.set_cons_succ]
    refine wpAnyH_take (i := 5) (v := undef) rfl (by kernel_rfl) (by kernel_rfl) (by kernel_rfl) (fun _ _ _ h => h) (Or.inr ⟨by rfl, rfl⟩) (by assumption) ?_
    try simp only [List.getElem_toArray, List.getElem_cons_succ, List.getElem_cons_zero, Act.put, List.setIfInBounds_toArray, List.set_cons_zero, List.set_cons_succ]
    refine wpAnyH_take (i := 6) (v := undef) rfl (by kernel_rfl) (by kernel_rfl) (by kernel_rfl) (fun _ _ _ h => h) (Or.inr ⟨by rfl, rfl⟩) (by assumption) ?_
    try simp only [List.getElem_toArray, List.getElem_cons_succ, List.getElem_cons_zero, Act.put, List.setIfInBounds_toArray, List.set_cons_zero, List.set_cons_succ]
    refine wpAnyH_take (i := 7) (v := undef) rfl (by kernel_rfl) (by kernel_rfl) (by kernel_rfl) (fun _ _ _ h => h) (Or.inr ⟨by rfl, rfl⟩) (by assumption) ?_
    try simp only [List.getElem_toArray, List.getElem_cons_succ, List.getElem_cons_zero, Act.put, List.setIfInBounds_toArray, List.set_cons_zero, List.set_cons_succ]
    refine wpAnyH_take (i := 8) (v := ?_) rfl (by kernel_rfl) (by kernel_rfl) (by kernel_rfl) (fun _ _ _ h => h) (Or.inl ⟨by rfl, ?_⟩) (by assumption) ?_
    rotate_left
    · (intro w hSw; (try dsimp only at hSw); go_simp; (try with_reducible rfl))
    try simp only [List.getElem_toArray, List.getElem_cons_succ, List.getElem_cons_zero, Act.put, List.setIfInBounds_toArray, List.set_cons_zero, List.set_cons_succ]
    have d0 := S8.out.res.c0
    have f0 := S8.out.res.f 0
    have d1 := S8.out.res.c1
    have f1 := S8.out.res.f 1
    have d2 := S8.out.res.c2
    have f2 := S8.out.res.f 2
    have d3 := S8.out.res.c3
    have f3 := S8.out.res.f 3
    have d4 := S8.out.res.c4
    have f4 := S8.out.res.f 4
    have d5 := S8.out.res.c5
    have f5 := S8.out.res.f 5
    have d6 := S8.out.res.c6
    have f6 := S8.out.res.f 6
    have d7 := S8.out.res.c7
    have f7 := S8.out.res.f 7
    refine wpAnyH_ready (rs := [9]) (by kernel_rfl) (by simp) (AllReadyH.cons rfl (fun K hK => ?_) AllReadyH.nil)
    go_simp
    clear d0 d1 d2 d3 d4 d5 d6 d7 f0 f1 f2 f3 f4 f5 f6 f7
    refine hK.out _ _ ?_ (fun hHeld => ?_)
    · exact frame_cells (S8.out.var.otherEight (c := w.heap.size) (by omega) a q 0 0 0 0 0 (.slice none 0 0))
    clear hK K
    try simp only [List.getElem_toArray, List.getElem_cons_succ, List.getElem_cons_zero, Act.put, List.setIfInBounds_toArray, List.set_cons_zero, List.set_cons_succ]
    refine wpAnyH_take (i := 10) (v := ?_) rfl (by kernel_rfl) (by kernel_rfl) (by kernel_rfl) (fun _ _ _ h => h) (Or.inl ⟨by rfl, ?_⟩) (by assumption) ?_
    rotate_left
    · (intro w hSw; (try dsimp only at hSw); go_simp; (try with_reducible rfl))
    try simp only [List.getElem_toArray, List.getElem_cons_succ, List.getElem_cons_zero, Act.put, List.setIfInBounds_toArray, List.set_cons_zero, List.set_cons_succ]
    refine wpAnyH_done (by kernel_rfl) ?_ _
    change Exit.then _ _ _ _ (setEight w8 w.heap.size a q 0 0 0 0 0 (.slice none 0 0))
    obtain ⟨SF, BF, OF⟩ := S8.out.fin a q 0 0 0 0 0 (.slice none 0 0)
    generalize setEight w8 w.heap.size a q 0 0 0 0 0 (.slice none 0 0) = wz at SF BF OF ⊢
    have e0 := SF.c0
    have e1 := SF.c1
    have e2 := SF.c2
    have e3 := SF.c3
    have e4 := SF.c4
    have e5 := SF.c5
    have e6 := SF.c6
    have e7 := SF.c7
    go_wp2_with fail
    exact bodyPost_ret (v := .tuple #[.agg #[.int .i64 a, .int .i64 q, .int .i64 0, .int .i64 0, .int .i64 0, .int .i64 0, .int .i64 0, .slice none 0 0], .bool false]) (by simp [results, Try.results134, go_sem, e0, e1, e2, e3, e4, e5, e6, e7]) rfl ⟨_, _, by rw [show isFrame ⟨a, q, 0, 0, 0, 0, 0, []⟩ = false from HI.out]; rfl, OF, BF⟩
  · have hfbl := frameBytes_small HI.out
    obtain ⟨fb, hfb⟩ : ∃ fb, frameBytes ⟨a, q, 0, 0, 0, 0, 0, []⟩ = fb := ⟨_, rfl⟩
    rw [hfb] at hfbl
    have HFB := Lib.hid hfb; have HFL := Lib.hid hfbl; clear hfb hfbl
    have hdlt : 0 ≤ 1048576 := by exact Nat.zero_le _
    have HDLT := Lib.hid hdlt; clear hdlt
    have HFL1 : Hid (fb.length ≤ 9223372036854775807) := Lib.hid (by have := HFL.out; omega)
    have HFL2 : Hid (n + 1 ≤ 9223372036854775807) := Lib.hid (by have := HXL.out; have := HXM.out; omega)
    refine wp_region_held_drew (S := fun w' => w'.cell? ⟨w.heap.size + 1, 0, none⟩ = some (.int .i64 a) ∧ w'.cell? ⟨w.heap.size + 1, 1, none⟩ = some (.int .i64 q) ∧ w'.cell? ⟨w.heap.size + 1, 2, none⟩ = some (.int .i64 0) ∧ w'.cell? ⟨w.heap.size + 1, 3, none⟩ = some (.int .i64 0) ∧ w'.cell? ⟨w.heap.size + 1, 4, none⟩ = some (.int .i64 0) ∧ w'.cell? ⟨w.heap.size + 1, 5, none⟩ = some (.int .i64 0) ∧ w'.cell? ⟨w.heap.size + 1, 6, none⟩ = some (.int .i64 0) ∧ w'.cell? ⟨w.heap.size + 1, 7, none⟩ = some (.slice none 0 0)) (by kernel_rfl) (frame_cells S7.out.var) (fun hHeld => ?_)
    refine wpAnyH_take (i := 0) (v := ?_) rfl (by kernel_rfl) (by kernel_rfl) (by kernel_rfl) (fun _ _ _ h => h) (Or.inl ⟨by rfl, ?_⟩) (by assumption) ?_
    rotate_left
    · (intro w hSw; (try dsimp only at hSw); go_simp; (try with_reducible rfl))
    try simp only [List.getElem_toArray, List.getElem_cons_succ, List.getElem_cons_zero, Act.put, List.setIfInBounds_toArray, List.set_cons_zero, List.set_cons_succ]
    refine wpAnyH_take (i := 1) (v := ?_) rfl (by kernel_rfl) (by kernel_rfl) (by kernel_rfl) (fun _ _ _ h => h) (Or.inl ⟨by rfl, ?_⟩) (by assumption) ?_
    rotate_left
    · (intro w hSw; (try dsimp only at hSw); go_simp; (try with_reducible rfl))
    try simp only [List.getElem_toArray, List.getElem_cons_succ, List.getElem_cons_zero, Act.put, List.setIfInBounds_toArray, List.set_cons_zero, List.set_cons_succ]
    refine wpAnyH_ready (rs := [2]) (by kernel_rfl) (by simp) (AllReadyH.cons rfl (fun K hK => ?_) AllReadyH.nil)
    go_simp
    refine (sIsFrame_any _ _ _ _ _ _ _ _ _ _ _ R7.out HDLT.out).mono ?_
    rintro e w8 ⟨rfl, b8⟩
    rw [HI.out]
    have S8 := Lib.hid (S7.out.call b8)
    have R8 := Lib.hid (R7.out.below b8)
    clear b8
    go_wp2_with fail
    refine hK.out _ _ ?_ (fun hHeld => ?_)
    · exact frame_cells S8.out.var
    clear hK K
    try simp only [List.getElem_toArray, List.getElem_cons_succ, List.getElem_cons_zero, Act.put, List.setIfInBounds_toArray, List.set_cons_zero, List.set_cons_succ]
    refine wpAnyH_take (i := 3) (v := ?_) rfl (by kernel_rfl) (by kernel_rfl) (by kernel_rfl) (fun _ _ _ h => h) (Or.inl ⟨by rfl, ?_⟩) (by assumption) ?_
    rotate_left
    · (intro w hSw; (try dsimp only at hSw); go_simp; (try with_reducible rfl))
    try simp only [List.getElem_toArray, List.getElem_cons_succ, List.getElem_cons_zero, Act.put, List.setIfInBounds_toArray, List.set_cons_zero, List.set_cons_succ]
    refine wpAnyH_take (i := 4) (v := ?_) rfl (by kernel_rfl) (by kernel_rfl) (by kernel_rfl) (fun _ _ _ h => h) (Or.inl ⟨by rfl, ?_⟩) (by assumption) ?_
    rotate_left
    · (intro w hSw; (try dsimp only at hSw); go_simp; (try with_reducible rfl))
    try simp only [List.getElem_toArray, List.getElem_cons_succ, List.getElem_cons_zero, Act.put, List.setIfInBounds_toArray, List.set_cons_zero, List.set_cons_succ]
    refine wpAnyH_take (i := 6) (v := ?_) rfl (by kernel_rfl) (by kernel_rfl) (by kernel_rfl) (fun _ _ _ h => h) (Or.inl ⟨by rfl, ?_⟩) (by assumption) ?_
    rotate_left
    · (intro w hSw; (try dsimp only at hSw); go_simp; (try with_reducible rfl))
    try simp only [List.getElem_toArray, List.getElem_cons_succ, List.getElem_cons_zero, Act.put, List.setIfInBounds_toArray, List.set_cons_zero, List.set_cons_succ]
    refine wpAnyH_ready (rs := [5]) (by kernel_rfl) (by simp) (AllReadyH.cons rfl (fun K hK => ?_) AllReadyH.nil)
    go_simp
    refine (l06Body_any _ _ _ _ _ _ _ _ _ _ _ R8.out HDLT.out HI.out).mono ?_
    rintro e w9 m9
    rw [HFB.out] at m9
    obtain ⟨p9, c9, rfl, -, r9, b9⟩ := m9.get
    have S9 := Lib.hid (S8.out.call b9)
    have R9 := Lib.hid r9
    clear b9 m9 r9
    go_wp2_with fail
    refine hK.out _ _ ?_ (fun hHeld => ?_)
    · exact frame_cells S9.out.var
    clear hK K
    try simp only [List.getElem_toArray, List.getElem_cons_succ, List.getElem_cons_zero, Act.put, List.setIfInBounds_toArray, List.set_cons_zero, List.set_cons_succ]
    refine wpAnyH_ready (rs := [7]) (by kernel_rfl) (by simp) (AllReadyH.cons rfl (fun K hK => ?_) AllReadyH.nil)
    go_simp
    refine (same_any _ _ _ _ _ _ _ _ _ R9.out (HXR.out.below S9.out.below) HFL1.out HFL2.out).mono ?_
    rintro e w10 ⟨rfl, q10, rfl⟩
    have S10 := Lib.hid (S9.out.call (below_drewN' (Below.refl _ _) q10))
    go_wp2_with fail
    refine hK.out _ _ ?_ (fun hHeld => ?_)
    · exact frame_cells S10.out.var
    clear hK K
    try simp only [List.getElem_toArray, List.getElem_cons_succ, List.getElem_cons_zero, Act.put, List.setIfInBounds_toArray, List.set_cons_zero, List.set_cons_succ]
    refine wpAnyH_take (i := 8) (v := ?_) rfl (by kernel_rfl) (by kernel_rfl) (by kernel_rfl) (fun _ _ _ h => h) (Or.inl ⟨by rfl, ?_⟩) (by assumption) ?_
    rotate_left
    · (intro w hSw; (try dsimp only at hSw); go_simp; (try with_reducible rfl))
    try simp only [List.getElem_toArray, List.getElem_cons_succ, List.getElem_cons_zero, Act.put, List.setIfInBounds_toArray, List.set_cons_zero, List.set_cons_succ]
    have d0 := S10.out.res.c0
    have f0 := S10.out.res.f 0
    have d1 := S10.out.res.c1
    have f1 := S10.out.res.f 1
    have d2 := S10.out.res.c2
    have f2 := S10.out.res.f 2
    have d3 := S10.out.res.c3
    have f3 := S10.out.res.f 3
    have d4 := S10.out.res.c4
    have f4 := S10.out.res.f 4
    have d5 := S10.out.res.c5
    have f5 := S10.out.res.f 5
    have d6 := S10.out.res.c6
    have f6 := S10.out.res.f 6
    have d7 := S10.out.res.c7
    have f7 := S10.out.res.f 7
    refine wpAnyH_ready (rs := [9]) (by kernel_rfl) (by simp) (AllReadyH.cons rfl (fun K hK => ?_) AllReadyH.nil)
    go_simp
    clear d0 d1 d2 d3 d4 d5 d6 d7 f0 f1 f2 f3 f4 f5 f6 f7
    refine hK.out _ _ ?_ (fun hHeld => ?_)
    · exact frame_cells (S10.out.var.otherEight (c := w.heap.size) (by omega) a q 0 0 0 0 0 (.slice none 0 0))
    clear hK K
    try simp only [List.getElem_toArray, List.getElem_cons_succ, List.getElem_cons_zero, Act.put, List.setIfInBounds_toArray, List.set_cons_zero, List.set_cons_succ]
    refine wpAnyH_take (i := 10) (v := ?_) rfl (by kernel_rfl) (by kernel_rfl) (by kernel_rfl) (fun _ _ _ h => h) (Or.inl ⟨by rfl, ?_⟩) (by assumption) ?_
    rotate_left
    · (intro w hSw; (try dsimp only at hSw); go_simp; (try with_reducible rfl))
    try simp only [List.getElem_toArray, List.getElem_cons_succ, List.getElem_cons_zero, Act.put, List.setIfInBounds_toArray, List.set_cons_zero, List.set_cons_succ]
    refine wpAnyH_done (by kernel_rfl) ?_ _
    change Exit.then _ _ _ _ (setEight (w9.drewN q10) w.heap.size a q 0 0 0 0 0 (.slice none 0 0))
    obtain ⟨SF, BF, OF⟩ := S10.out.fin a q 0 0 0 0 0 (.slice none 0 0)
    generalize setEight (w9.drewN q10) w.heap.size a q 0 0 0 0 0 (.slice none 0 0) = wz at SF BF OF ⊢
    have e0 := SF.c0
    have e1 := SF.c1
    have e2 := SF.c2
    have e3 := SF.c3
    have e4 := SF.c4
    have e5 := SF.c5
    have e6 := SF.c6
    have e7 := SF.c7
    go_wp2_with fail
    exact bodyPost_ret (v := .tuple #[.agg #[.int .i64 a, .int .i64 q, .int .i64 0, .int .i64 0, .int .i64 0, .int .i64 0, .int .i64 0, .slice none 0 0], .bool (true && decide (fb = xs))]) (by simp [results, Try.results134, go_sem, e0, e1, e2, e3, e4, e5, e6, e7]) rfl ⟨_, _, by rw [show isFrame ⟨a, q, 0, 0, 0, 0, 0, []⟩ = true from HI.out, show frameBytes ⟨a, q, 0, 0, 0, 0, 0, []⟩ = fb from HFB.out] <;> rfl, OF, BF⟩
set_option maxHeartbeats 2000000 in
set_option maxRecDepth 100000 in
set_option linter.unusedVariables false in
set_option linter.unusedSimpArgs false in
theorem sp00_1 (b off e n : Nat) (w : World) (h a q y0 y1 y2 y3 y4 : Int) (d bs : List Int) (hb : b < w.heap.size) (hc : w.cell? ⟨b, off, none⟩ = some (.int .i64 h)) (hcap : n + 1 ≤ 0 + 1) (hcap2 : 0 + 1 ≤ 9223372036854775807) (hh : 0 ≤ h ∧ h ≤ 255) (hK : h / 64 = a) (hQ : h / 8 % 8 = q) (hx : (a != 0) = false) (hy : hasData a = false) (xs : List Int) (hxl : xs.length = n + 1) (hxr : Rd w (some ⟨b, off, none⟩) xs.length xs) (hxm : xs.length ≤ 1024)
    :
    Calls Try.prog 134 #[.slice (some ⟨b, off, none⟩) (n + 1) (0 + 1)] w (GivesFB w ⟨a, q, 0, 0, 0, 0, 0, []⟩ (.bool (isFrame ⟨a, q, 0, 0, 0, 0, 0, []⟩ && decide (frameBytes ⟨a, q, 0, 0, 0, 0, 0, []⟩ = xs)))) := by
  have hd1 : IntKind.i64.wrap (h.tdiv 64) = a := by rw [Int.tdiv_eq_ediv_of_nonneg hh.1, IntKind.wrap_i64]; omega
  have hd2 : IntKind.i64.wrap (h.tdiv 8) = h / 8 := by rw [Int.tdiv_eq_ediv_of_nonneg hh.1, IntKind.wrap_i64]; omega
  have hd3 : (h / 8).tmod 8 = q := by rw [Int.tmod_eq_emod_of_nonneg (by omega)]; omega
  have hc1 : (w.alloc (.cells #[.int .i64 0, .int .i64 0, .int .i64 0, .int .i64 0, .int .i64 0, .int .i64 0, .int .i64 0, .slice none 0 0] 28)).cell? ⟨b, off, none⟩ = some (.int .i64 h) := (((Below.refl w.heap.size w).alloc (Nat.le_refl _) _).cell (p := ⟨b, off, none⟩) hb).trans hc
  have q1 : (0 : Int) < (n : Int) + 1 := by omega
  have q2 : ¬ (n : Int) + 1 = 0 := by omega
  have HX := Lib.hid hx; have HY := Lib.hid hy; have HXL := Lib.hid hxl; have HXR := Lib.hid (show Rd w (some ⟨b, off, none⟩) (n + 1) xs from by rw [← hxl]; exact hxr); have HXM := Lib.hid hxm; clear hxl hxr hxm
  clear hx hy hQ hK
  go_enter Try.func134, Try.ntmps134
  go_upto_region 3 with fail
  go_region_held3 (fun w' => w'.cell? ⟨b, off, none⟩ = some (.int .i64 h)) (first | exact hc1 | go_keep) (fail)
  go_wp2_with fail
  refine (l06State_any _ _).mono ?_
  rintro e w1' ⟨rfl, rfl⟩
  rw [HX.out]
  have S1 := Lib.hid (ReadSt.start2 w a q)
  generalize (((w.alloc (.cells #[.int .i64 0, .int .i64 0, .int .i64 0, .int .i64 0, .int .i64 0, .int .i64 0, .int .i64 0, .slice none 0 0] 28)).alloc (.cells #[.int .i64 a, .int .i64 q, .int .i64 0, .int .i64 0, .int .i64 0, .int .i64 0, .int .i64 0, .slice none 0 0] 28)).drew) = w1 at S1 ⊢
  clear hc hc1 hd1 hd2 hd3
  have c0 := S1.out.var.c0
  have lv := S1.out.var.lt
  go_upto_region 14 with (go_at_call 129; refine (l06Data_any _ _).mono ?_; rintro e w4' ⟨rfl, rfl⟩; rw [HY.out])
  clear c0 lv
  obtain ⟨p9, c9, hpc⟩ : ∃ p9 c9, Value.slice p9 0 c9 = .slice none 0 0 := ⟨_, _, rfl⟩
  have O9 := S1.out.own
  obtain ⟨ao', cap', e', -, RD⟩ := O9.get
  cases e'
  have HB9 := Lib.hid RD
  clear RD O9 hpc
  have S7 := Lib.hid (S1.out.call (Below.drew (Below.refl w1.heap.size w1)))
  have R7 := Lib.hid (HB9.out.below (Below.drew (Below.refl w1.heap.size w1)))
  obtain ⟨b1, hb1⟩ : ∃ b1, isFrame ⟨a, q, 0, 0, 0, 0, 0, []⟩ = b1 := ⟨_, rfl⟩
  have HI := Lib.hid hb1; clear hb1
  cases b1
  · refine wp_region_held_drew (S := fun w' => w'.cell? ⟨w.heap.size + 1, 0, none⟩ = some (.int .i64 a) ∧ w'.cell? ⟨w.heap.size + 1, 1, none⟩ = some (.int .i64 q) ∧ w'.cell? ⟨w.heap.size + 1, 2, none⟩ = some (.int .i64 0) ∧ w'.cell? ⟨w.heap.size + 1, 3, none⟩ = some (.int .i64 0) ∧ w'.cell? ⟨w.heap.size + 1, 4, none⟩ = some (.int .i64 0) ∧ w'.cell? ⟨w.heap.size + 1, 5, none⟩ = some (.int .i64 0) ∧ w'.cell? ⟨w.heap.size + 1, 6, none⟩ = some (.int .i64 0) ∧ w'.cell? ⟨w.heap.size + 1, 7, none⟩ = some (.slice none 0 0)) (by kernel_rfl) (frame_cells S7.out.var) (fun hHeld => ?_)
    refine wpAnyH_take (i := 0) (v := ?_) rfl (by kernel_rfl) (by kernel_rfl) (by kernel_rfl) (fun _ _ _ h => h) (Or.inl ⟨by rfl, ?_⟩) (by assumption) ?_
    rotate_left
    · (intro w hSw; (try dsimp only at hSw); go_simp; (try with_reducible rfl))
    try simp only [List.getElem_toArray, List.getElem_cons_succ, List.getElem_cons_zero, Act.put, List.setIfInBounds_toArray, List.set_cons_zero, List.set_cons_succ]
    refine wpAnyH_take (i := 1) (v := ?_) rfl (by kernel_rfl) (by kernel_rfl) (by kernel_rfl) (fun _ _ _ h => h) (Or.inl ⟨by rfl, ?_⟩) (by assumption) ?_
    rotate_left
    · (intro w hSw; (try dsimp only at hSw); go_simp; (try with_reducible rfl))
    try simp only [List.getElem_toArray, List.getElem_cons_succ, List.getElem_cons_zero, Act.put, List.setIfInBounds_toArray, List.set_cons_zero, List.set_cons_succ]
    refine wpAnyH_ready (rs := [2]) (by kernel_rfl) (by simp) (AllReadyH.cons rfl (fun K hK => ?_) AllReadyH.nil)
    go_simp
    refine (sIsFrame_any _ _ _ _ _ _ _ _ _ _ _ R7.out (Nat.zero_le _)).mono ?_
    rintro e w8 ⟨rfl, b8⟩
    rw [HI.out]
    have S8 := Lib.hid (S7.out.call b8)
    clear b8
    go_wp2_with fail
    refine hK.out _ _ ?_ (fun hHeld => ?_)
    · exact frame_cells S8.out.var
    clear hK K
    try simp only [List.getElem_toArray, List.getElem_cons_succ, List.getElem_cons_zero, Act.put, List.setIfInBounds_toArray, List.set_cons_zero, List.set_cons_succ]
    refine wpAnyH_take (i := 3) (v := ?_) rfl (by kernel_rfl) (by kernel_rfl) (by kernel_rfl) (fun _ _ _ h => h) (Or.inl ⟨by rfl, ?_⟩) (by assumption) ?_
    rotate_left
    · (intro w hSw; (try dsimp only at hSw); go_simp; (try with_reducible rfl))
    try simp only [List.getElem_toArray, List.getElem_cons_succ, List.getElem_cons_zero, Act.put, List.setIfInBounds_toArray, List.set_cons_zero, List.set_cons_succ]
    refine wpAnyH_take (i := 4) (v := undef) rfl (by kernel_rfl) (by kernel_rfl) (by kernel_rfl) (fun _ _ _ h => h) (Or.inr ⟨by rfl, rfl⟩) (by assumption) ?_
    try simp only [List.getElem_toArray, List.getElem_cons_succ, List.getElem_cons_zero, Act.put, List.setIfInBounds_toArray, List.set_cons_zero, List.set_cons_succ]
    refine wpAnyH_take (i := 5) (v := undef) rfl (by kernel_rfl) (by kernel_rfl) (by kernel_rfl) (fun _ _ _ h => h) (Or.inr ⟨by rfl, rfl⟩) (by assumption) ?_
    try simp only [List.getElem_toArray, List.getElem_cons_succ, List.getElem_cons_zero, Act.put, List.setIfInBounds_toArray, List.set_cons_zero, List.set_cons_succ]
    refine wpAnyH_take (i := 6) (v := undef) rfl (by kernel_rfl) (by kernel_rfl) (by kernel_rfl) (fun _ _ _ h => h) (Or.inr ⟨by rfl, rfl⟩) (by assumption) ?_
    try simp only [List.getElem_toArray, List.getElem_cons_succ, List.getElem_cons_zero, Act.put, List.setIfInBounds_toArray, List.set_cons_zero, List.set_cons_succ]
    refine wpAnyH_take (i := 7) (v := undef) rfl (by kernel_rfl) (by kernel_rfl) (by kernel_rfl) (fun _ _ _ h => h) (Or.inr ⟨by rfl, rfl⟩) (by assumption) ?_
    try simp only [List.getElem_toArray, List.getElem_cons_succ, List.getElem_cons_zero, Act.put, List.setIfInBounds_toArray, List.set_cons_zero, List.set_cons_succ]
    refine wpAnyH_take (i := 8) (v := ?_) rfl (by kernel_rfl) (by kernel_rfl) (by kernel_rfl) (fun _ _ _ h => h) (Or.inl ⟨by rfl, ?_⟩) (by assumption) ?_
    rotate_left
    · (intro w hSw; (try dsimp only at hSw); go_simp; (try with_reducible rfl))
    try simp only [List.getElem_toArray, List.getElem_cons_succ, List.getElem_cons_zero, Act.put, List.setIfInBounds_toArray, List.set_cons_zero, List.set_cons_succ]
    have d0 := S8.out.res.c0
    have f0 := S8.out.res.f 0
    have d1 := S8.out.res.c1
    have f1 := S8.out.res.f 1
    have d2 := S8.out.res.c2
    have f2 := S8.out.res.f 2
    have d3 := S8.out.res.c3
    have f3 := S8.out.res.f 3
    have d4 := S8.out.res.c4
    have f4 := S8.out.res.f 4
    have d5 := S8.out.res.c5
    have f5 := S8.out.res.f 5
    have d6 := S8.out.res.c6
    have f6 := S8.out.res.f 6
    have d7 := S8.out.res.c7
    have f7 := S8.out.res.f 7
    refine wpAnyH_ready (rs := [9]) (by kernel_rfl) (by simp) (AllReadyH.cons rfl (fun K hK => ?_) AllReadyH.nil)
    go_simp
    clear d0 d1 d2 d3 d4 d5 d6 d7 f0 f1 f2 f3 f4 f5 f6 f7
    refine hK.out _ _ ?_ (fun hHeld => ?_)
    · exact frame_cells (S8.out.var.otherEight (c := w.heap.size) (by omega) a q 0 0 0 0 0 (.slice none 0 0))
    clear hK K
    try simp only [List.getElem_toArray, List.getElem_cons_succ, List.getElem_cons_zero, Act.put, List.setIfInBounds_toArray, List.set_cons_zero, List.set_cons_succ]
    refine wpAnyH_take (i := 10) (v := ?_) rfl (by kernel_rfl) (by kernel_rfl) (by kernel_rfl) (fun _ _ _ h => h) (Or.inl ⟨by rfl, ?_⟩) (by assumption) ?_
    rotate_left
    · (intro w hSw; (try dsimp only at hSw); go_simp; (try with_reducible rfl))
    try simp only [List.getElem_toArray, List.getElem_cons_succ, List.getElem_cons_zero, Act.put, List.setIfInBounds_toArray, List.set_cons_zero, List.set_cons_succ]
    refine wpAnyH_done (by kernel_rfl) ?_ _
    change Exit.then _ _ _ _ (setEight w8 w.heap.size a q 0 0 0 0 0 (.slice none 0 0))
    obtain ⟨SF, BF, OF⟩ := S8.out.fin a q 0 0 0 0 0 (.slice none 0 0)
    generalize setEight w8 w.heap.size a q 0 0 0 0 0 (.slice none 0 0) = wz at SF BF OF ⊢
    have e0 := SF.c0
    have e1 := SF.c1
    have e2 := SF.c2
    have e3 := SF.c3
    have e4 := SF.c4
    have e5 := SF.c5
    have e6 := SF.c6
    have e7 := SF.c7
    go_wp2_with fail
    exact bodyPost_ret (v := .tuple #[.agg #[.int .i64 a, .int .i64 q, .int .i64 0, .int .i64 0, .int .i64 0, .int .i64 0, .int .i64 0, .slice none 0 0], .bool false]) (by simp [results, Try.results134, go_sem, e0, e1, e2, e3, e4, e5, e6, e7]) rfl ⟨_, _, by rw [show isFrame ⟨a, q, 0, 0, 0, 0, 0, []⟩ = false from HI.out]; rfl, OF, BF⟩
  · have hfbl := frameBytes_small HI.out
    obtain ⟨fb, hfb⟩ : ∃ fb, frameBytes ⟨a, q, 0, 0, 0, 0, 0, []⟩ = fb := ⟨_, rfl⟩
    rw [hfb] at hfbl
    have HFB := Lib.hid hfb; have HFL := Lib.hid hfbl; clear hfb hfbl
    have hdlt : 0 ≤ 1048576 := by exact Nat.zero_le _
    have HDLT := Lib.hid hdlt; clear hdlt
    have HFL1 : Hid (fb.length ≤ 9223372036854775807) := Lib.hid (by have := HFL.out; omega)
    have HFL2 : Hid (n + 1 ≤ 9223372036854775807) := Lib.hid (by have := HXL.out; have := HXM.out; omega)
    refine wp_region_held_drew (S := fun w' => w'.cell? ⟨w.heap.size + 1, 0, none⟩ = some (.int .i64 a) ∧ w'.cell? ⟨w.heap.size + 1, 1, none⟩ = some (.int .i64 q) ∧ w'.cell? ⟨w.heap.size + 1, 2, none⟩ = some (.int .i64 0) ∧ w'.cell? ⟨w.heap.size + 1, 3, none⟩ = some (.int .i64 0) ∧ w'.cell? ⟨w.heap.size + 1, 4, none⟩ = some (.int .i64 0) ∧ w'.cell? ⟨w.heap.size + 1, 5, none⟩ = some (.int .i64 0) ∧ w'.cell? ⟨w.heap.size + 1, 6, none⟩ = some (.int .i64 0) ∧ w'.cell? ⟨w.heap.size + 1, 7, none⟩ = some (.slice none 0 0)) (by kernel_rfl) (frame_cells S7.out.var) (fun hHeld => ?_)
    refine wpAnyH_take (i := 0) (v := ?_) rfl (by kernel_rfl) (by kernel_rfl) (by kernel_rfl) (fun _ _ _ h => h) (Or.inl ⟨by rfl, ?_⟩) (by assumption) ?_
    rotate_left
    · (intro w hSw; (try dsimp only at hSw); go_simp; (try with_reducible rfl))
    try simp only [List.getElem_toArray, List.getElem_cons_succ, List.getElem_cons_zero, Act.put, List.setIfInBounds_toArray, List.set_cons_zero, List.set_cons_succ]
    refine wpAnyH_take (i := 1) (v := ?_) rfl (by kernel_rfl) (by kernel_rfl) (by kernel_rfl) (fun _ _ _ h => h) (Or.inl ⟨by rfl, ?_⟩) (by assumption) ?_
    rotate_left
    · (intro w hSw; (try dsimp only at hSw); go_simp; (try with_reducible rfl))
    try simp only [List.getElem_toArray, List.getElem_cons_succ, List.getElem_cons_zero, Act.put, List.setIfInBounds_toArray, List.set_cons_zero, List.set_cons_succ]
    refine wpAnyH_ready (rs := [2]) (by kernel_rfl) (by simp) (AllReadyH.cons rfl (fun K hK => ?_) AllReadyH.nil)
    go_simp
    refine (sIsFrame_any _ _ _ _ _ _ _ _ _ _ _ R7.out HDLT.out).mono ?_
    rintro e w8 ⟨rfl, b8⟩
    rw [HI.out]
    have S8 := Lib.hid (S7.out.call b8)
    have R8 := Lib.hid (R7.out.below b8)
    clear b8
    go_wp2_with fail
    refine hK.out _ _ ?_ (fun hHeld => ?_)
    · exact frame_cells S8.out.var
    clear hK K
    try simp only [List.getElem_toArray, List.getElem_cons_succ, List.getElem_cons_zero, Act.put, List.setIfInBounds_toArray, List.set_cons_zero, List.set_cons_succ]
    refine wpAnyH_take (i := 3) (v := ?_) rfl (by kernel_rfl) (by kernel_rfl) (by kernel_rfl) (fun _ _ _ h => h) (Or.inl ⟨by rfl, ?_⟩) (by assumption) ?_
    rotate_left
    · (intro w hSw; (try dsimp only at hSw); go_simp; (try with_reducible rfl))
    try simp only [List.getElem_toArray, List.getElem_cons_succ, List.getElem_cons_zero, Act.put, List.setIfInBounds_toArray, List.set_cons_zero, List.set_cons_succ]
    refine wpAnyH_take (i := 4) (v := ?_) rfl (by kernel_rfl) (by kernel_rfl) (by kernel_rfl) (fun _ _ _ h => h) (Or.inl ⟨by rfl, ?_⟩) (by assumption) ?_
    rotate_left
    · (intro w hSw; (try dsimp only at hSw); go_simp; (try with_reducible rfl))
    try simp only [List.getElem_toArray, List.getElem_cons_succ, List.getElem_cons_zero, Act.put, List.setIfInBounds_toArray, List.set_cons_zero, List.set_cons_succ]
    refine wpAnyH_take (i := 6) (v := ?_) rfl (by kernel_rfl) (by kernel_rfl) (by kernel_rfl) (fun _ _ _ h => h) (Or.inl ⟨by rfl, ?_⟩) (by assumption) ?_
    rotate_left
    · (intro w hSw; (try dsimp only at hSw); go_simp; (try with_reducible rfl))
    try simp only [List.getElem_toArray, List.getElem_cons_succ, List.getElem_cons_zero, Act.put, List.setIfInBounds_toArray, List.set_cons_zero, List.set_cons_succ]
    refine wpAnyH_ready (rs := [5]) (by kernel_rfl) (by simp) (AllReadyH.cons rfl (fun K hK => ?_) AllReadyH.nil)
    go_simp
    refine (l06Body_any _ _ _ _ _ _ _ _ _ _ _ R8.out HDLT.out HI.out).mono ?_
    rintro e w9 m9
    rw [HFB.out] at m9
    obtain ⟨p9, c9, rfl, -, r9, b9⟩ := m9.get
    have S9 := Lib.hid (S8.out.call b9)
    have R9 := Lib.hid r9
    clear b9 m9 r9
    go_wp2_with fail
    refine hK.out _ _ ?_ (fun hHeld => ?_)
    · exact frame_cells S9.out.var
    clear hK K
    try simp only [List.getElem_toArray, List.getElem_cons_succ, List.getElem_cons_zero, Act.put, List.setIfInBounds_toArray, List.set_cons_zero, List.set_cons_succ]
    refine wpAnyH_ready (rs := [7]) (by kernel_rfl) (by simp) (AllReadyH.cons rfl (fun K hK => ?_) AllReadyH.nil)
    go_simp
    refine (same_any _ _ _ _ _ _ _ _ _ R9.out (HXR.out.below S9.out.below) HFL1.out HFL2.out).mono ?_
    rintro e w10 ⟨rfl, q10, rfl⟩
    have S10 := Lib.hid (S9.out.call (below_drewN' (Below.refl _ _) q10))
    go_wp2_with fail
    refine hK.out _ _ ?_ (fun hHeld => ?_)
    · exact frame_cells S10.out.var
    clear hK K
    try simp only [List.getElem_toArray, List.getElem_cons_succ, List.getElem_cons_zero, Act.put, List.setIfInBounds_toArray, List.set_cons_zero, List.set_cons_succ]
    refine wpAnyH_take (i := 8) (v := ?_) rfl (by kernel_rfl) (by kernel_rfl) (by kernel_rfl) (fun _ _ _ h => h) (Or.inl ⟨by rfl, ?_⟩) (by assumption) ?_
    rotate_left
    · (intro w hSw; (try dsimp only at hSw); go_simp; (try with_reducible rfl))
    try simp only [List.getElem_toArray, List.getElem_cons_succ, List.getElem_cons_zero, Act.put, List.setIfInBounds_toArray, List.set_cons_zero, List.set_cons_succ]
    have d0 := S10.out.res.c0
    have f0 := S10.out.res.f 0
    have d1 := S10.out.res.c1
    have f1 := S10.out.res.f 1
    have d2 := S10.out.res.c2
    have f2 := S10.out.res.f 2
    have d3 := S10.out.res.c3
    have f3 := S10.out.res.f 3
    have d4 := S10.out.res.c4
    have f4 := S10.out.res.f 4
    have d5 := S10.out.res.c5
    have f5 := S10.out.res.f 5
    have d6 := S10.out.res.c6
    have f6 := S10.out.res.f 6
    have d7 := S10.out.res.c7
    have f7 := S10.out.res.f 7
    refine wpAnyH_ready (rs := [9]) (by kernel_rfl) (by simp) (AllReadyH.cons rfl (fun K hK => ?_) AllReadyH.nil)
    go_simp
    clear d0 d1 d2 d3 d4 d5 d6 d7 f0 f1 f2 f3 f4 f5 f6 f7
    refine hK.out _ _ ?_ (fun hHeld => ?_)
    · exact frame_cells (S10.out.var.otherEight (c := w.heap.size) (by omega) a q 0 0 0 0 0 (.slice none 0 0))
    clear hK K
    try simp only [List.getElem_toArray, List.getElem_cons_succ, List.getElem_cons_zero, Act.put, List.setIfInBounds_toArray, List.set_cons_zero, List.set_cons_succ]
    refine wpAnyH_take (i := 10) (v := ?_) rfl (by kernel_rfl) (by kernel_rfl) (by kernel_rfl) (fun _ _ _ h => h) (Or.inl ⟨by rfl, ?_⟩) (by assumption) ?_
    rotate_left
    · (intro w hSw; (try dsimp only at hSw); go_simp; (try with_reducible rfl))
    try simp only [List.getElem_toArray, List.getElem_cons_succ, List.getElem_cons_zero, Act.put, List.setIfInBounds_toArray, List.set_cons_zero, List.set_cons_succ]
    refine wpAnyH_done (by kernel_rfl) ?_ _
    change Exit.then _ _ _ _ (setEight (w9.drewN q10) w.heap.size a q 0 0 0 0 0 (.slice none 0 0))
    obtain ⟨SF, BF, OF⟩ := S10.out.fin a q 0 0 0 0 0 (.slice none 0 0)
    generalize setEight (w9.drewN q10) w.heap.size a q 0 0 0 0 0 (.slice none 0 0) = wz at SF BF OF ⊢
    have e0 := SF.c0
    have e1 := SF.c1
    have e2 := SF.c2
    have e3 := SF.c3
    have e4 := SF.c4
    have e5 := SF.c5
    have e6 := SF.c6
    have e7 := SF.c7
    go_wp2_with fail
    exact bodyPost_ret (v := .tuple #[.agg #[.int .i64 a, .int .i64 q, .int .i64 0, .int .i64 0, .int .i64 0, .int .i64 0, .int .i64 0, .slice none 0 0], .bool (true && decide (fb = xs))]) (by simp [results, Try.results134, go_sem, e0, e1, e2, e3, e4, e5, e6, e7]) rfl ⟨_, _, by rw [show isFrame ⟨a, q, 0, 0, 0, 0, 0, []⟩ = true from HI.out, show frameBytes ⟨a, q, 0, 0, 0, 0, 0, []⟩ = fb from HFB.out] <;> rfl, OF, BF⟩
end
end Go.Proofs.Ytbdfnkhmnglpbaa
