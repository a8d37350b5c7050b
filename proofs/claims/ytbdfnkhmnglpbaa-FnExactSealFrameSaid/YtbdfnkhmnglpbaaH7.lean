/-
  Chapter 7: OpenFrame and IsOpenable of both sides.
-/
import Derived.Test.YtbdfnkhmnglpbaaH6
namespace Go.Proofs.Ytbdfnkhmnglpbaa
open Go.RowKit

section
variable {xs : List Int} {id t m r s k : Int}
theorem of_A (hs : isState t m r s k = false) : openFrame xs id t m r s k = (Fr.zero, 1) := by unfold openFrame; rw [if_pos hs]
theorem of_B (hs : isState t m r s k = true) (h : inRange 0 16777215 id = false ∨ isBytes xs = false) : openFrame xs id t m r s k = (Fr.zero, 2) := by unfold openFrame; rw [if_neg (by simp [hs]), if_pos h]
theorem of_C (hs : isState t m r s k = true) (hi : inRange 0 16777215 id = true) (hb : isBytes xs = true) (hl : xs.length < 4) : openFrame xs id t m r s k = (Fr.zero, 6) := by unfold openFrame; rw [if_neg (by simp [hs]), if_neg (by simp [hi, hb]), if_pos hl]
theorem of_D (hs : isState t m r s k = true) (hi : inRange 0 16777215 id = true) (hb : isBytes xs = true) (hl : ¬ xs.length < 4) (h : sealNum (xs.getD 0 0 / 64) id t m r s k (xs.take (xs.length - 3)) ≠ lastThree xs) : openFrame xs id t m r s k = (Fr.zero, 7) := by unfold openFrame; rw [if_neg (by simp [hs]), if_neg (by simp [hi, hb]), if_neg hl, if_pos h]
theorem of_E (hs : isState t m r s k = true) (hi : inRange 0 16777215 id = true) (hb : isBytes xs = true) (hl : ¬ xs.length < 4) (h : sealNum (xs.getD 0 0 / 64) id t m r s k (xs.take (xs.length - 3)) = lastThree xs) (hf : (frameFrom (xs.take (xs.length - 3))).2 ≠ 0) : openFrame xs id t m r s k = (Fr.zero, 6) := by unfold openFrame; rw [if_neg (by simp [hs]), if_neg (by simp [hi, hb]), if_neg hl, if_neg (fun e => e h), if_pos hf]
theorem of_F {f : Fr} (hs : isState t m r s k = true) (hi : inRange 0 16777215 id = true) (hb : isBytes xs = true) (hl : ¬ xs.length < 4) (h : sealNum (xs.getD 0 0 / 64) id t m r s k (xs.take (xs.length - 3)) = lastThree xs) (hf : frameFrom (xs.take (xs.length - 3)) = (f, 0)) (hst : hasState f.kind = true) (hne : ¬ (f.t = t ∧ f.m = m ∧ f.r = r ∧ f.s = s ∧ f.k = k)) : openFrame xs id t m r s k = (Fr.zero, 5) := by unfold openFrame; rw [hf, if_neg (by simp [hs]), if_neg (by simp [hi, hb]), if_neg hl, if_neg (fun e => e h), if_neg (by simp), if_pos ⟨hst, hne⟩]
theorem of_G {f : Fr} (hs : isState t m r s k = true) (hi : inRange 0 16777215 id = true) (hb : isBytes xs = true) (hl : ¬ xs.length < 4) (h : sealNum (xs.getD 0 0 / 64) id t m r s k (xs.take (xs.length - 3)) = lastThree xs) (hf : frameFrom (xs.take (xs.length - 3)) = (f, 0)) (hst : hasState f.kind = false ∨ (f.t = t ∧ f.m = m ∧ f.r = r ∧ f.s = s ∧ f.k = k)) : openFrame xs id t m r s k = (f, 0) := by
  unfold openFrame
  rw [hf, if_neg (by simp [hs]), if_neg (by simp [hi, hb]), if_neg hl, if_neg (fun e => e h), if_neg (by simp), if_neg]
  rintro ⟨h1, h2⟩
  rcases hst with h3 | h3
  · rw [h3] at h1; cases h1
  · exact h2 h3
end
theorem head_byte {h : Int} (hh : 0 ≤ h ∧ h ≤ 255) : kindOfHead h = (h / 64, 0) := by unfold kindOfHead; rw [if_pos (by simp [inRange]; omega)]
theorem openFrame_any (id t m r s k : Int) (ao : Option Addr) (cap : Nat) (xs : List Int) (w : World) (hr : Rd w ao xs.length xs) (hn : xs.length ≤ 1048576) (hcap : xs.length ≤ cap) (hcap2 : cap ≤ 9223372036854775807) : Calls Try.prog 25 #[.slice ao xs.length cap, .int .i64 id, .agg #[.int .i64 t, .int .i64 m, .int .i64 r, .int .i64 s, .int .i64 k]] w (GivesFB w (openFrame xs id t m r s k).1 (.int .i64 (openFrame xs id t m r s k).2)) := by
  rcases hs : isState t m r s k with _ | _
  · rw [of_A hs]; exact io_A _ _ _ _ _ _ _ _ _ _ hr hn hs
  rcases hi : inRange 0 16777215 id with _ | _
  · rw [of_B hs (.inl hi)]; exact io_B1 _ _ _ _ _ _ _ _ _ _ hr hn hs hi
  rcases hb : isBytes xs with _ | _
  · rw [of_B hs (.inr hb)]; exact io_B2 _ _ _ _ _ _ _ _ _ _ hr hn hs hi hb
  by_cases hl : xs.length < 4
  · rw [of_C hs hi hb hl]; exact io_C _ _ _ _ _ _ _ _ _ _ hr hn hs hi hb hl
  have hbs := isBytes_iff.1 hb
  obtain ⟨c, rfl⟩ : ∃ c, cap = c + 3 := ⟨cap - 3, by omega⟩
  obtain ⟨b, off, rfl, -⟩ := hr.here (by omega)
  obtain ⟨ys, hys⟩ : ∃ ys, xs.take (xs.length - 3) = ys := ⟨_, rfl⟩
  have hyl : ys.length = xs.length - 3 := by rw [← hys, List.length_take]; omega
  have hxl : xs.length = ys.length + 3 := by omega
  have hyb : ∀ x ∈ ys, 0 ≤ x ∧ x ≤ 255 := fun x hx => hbs.2 x (List.mem_of_mem_take (by rw [hys]; exact hx))
  have hh := hbs.2 (xs.getD 0 0) (getD_mem' (by omega))
  have hx2 := sealNum_in (xs.getD 0 0 / 64) id t m r s k ys
  have h0 : ys.getD 0 0 = xs.getD 0 0 := by
    rw [← hys]
    have : 0 < xs.length - 3 := by omega
    simp only [List.getD]; rw [List.getElem?_take_of_lt this]
  have hy' : xs.take ys.length = ys := by rw [hyl]; exact hys
  have hr' : Rd w (some ⟨b, off, none⟩) (ys.length + 3) xs := by rw [← hxl]; exact hr
  have hti := three_iff (xs := xs) (x := sealNum (xs.getD 0 0 / 64) id t m r s k ys) (by omega) hbs.2
  rw [show xs.length - 3 = ys.length from hyl.symm] at hti
  have hzl : xs.drop ys.length = xs.drop ys.length := rfl
  by_cases hd : sealNum (xs.getD 0 0 / 64) id t m r s k ys = lastThree xs
  rotate_left
  · rw [of_D hs hi hb hl (by rw [hys]; exact hd), hxl]
    exact io_D b off c id t m r s k _ _ ys _ xs w hr' (by omega) (by omega) hcap2 hs hi hb (by omega) rfl (head_byte hh) hy' rfl hyb rfl hx2 (decide_eq_false fun e => hd (hti.1 e))
  have hdt := decide_eq_true (hti.2 hd)
  obtain ⟨⟨a, q, u0, u1, u2, u3, u4, d⟩, z, hf⟩ : ∃ f z, frameFrom ys = (f, z) := ⟨_, _, rfl⟩
  by_cases hz0 : z = 0
  rotate_left
  · rw [of_E hs hi hb hl (by rw [hys]; exact hd) (by rw [hys, hf]; exact hz0), hxl]
    exact io_E b off c id t m r s k _ _ ys _ xs w hr' (by omega) (by omega) hcap2 hs hi hb (by omega) rfl (head_byte hh) hy' rfl hyb rfl hx2 a q u0 u1 u2 u3 u4 z d hf hdt hz0
  subst hz0
  have hk := from_kind hf
  rw [h0] at hk
  simp only at hk
  rcases hst : hasState a with _ | _
  · rw [of_G hs hi hb hl (by rw [hys]; exact hd) (by rw [hys]; exact hf) (.inl hst), hxl]
    exact io_G1 b off c id t m r s k _ _ ys _ xs w hr' (by omega) (by omega) hcap2 hs hi hb (by omega) rfl (head_byte hh) hy' rfl hyb rfl hx2 a q u0 u1 u2 u3 u4 0 d hf hdt rfl (by rw [← hk]; exact hst)
  by_cases hne : u0 = t ∧ u1 = m ∧ u2 = r ∧ u3 = s ∧ u4 = k
  · rw [of_G hs hi hb hl (by rw [hys]; exact hd) (by rw [hys]; exact hf) (.inr hne), hxl]
    exact io_G2 b off c id t m r s k _ _ ys _ xs w hr' (by omega) (by omega) hcap2 hs hi hb (by omega) rfl (head_byte hh) hy' rfl hyb rfl hx2 a q u0 u1 u2 u3 u4 0 d hf hdt rfl (by rw [← hk]; exact hst) hne
  · rw [of_F hs hi hb hl (by rw [hys]; exact hd) (by rw [hys]; exact hf) hst hne, hxl]
    exact io_F b off c id t m r s k _ _ ys _ xs w hr' (by omega) (by omega) hcap2 hs hi hb (by omega) rfl (head_byte hh) hy' rfl hyb rfl hx2 a q u0 u1 u2 u3 u4 0 d hf hdt rfl (by rw [← hk]; exact hst) hne
/-- What the model's reader hands back of a list. -/
theorem l06_gives {ys : List Int} (hb : isBytes ys = true) (b off : Nat) : ∃ a q u0 u1 u2 u3 u4, ∃ d : List Int, ∃ ok : Bool, (∀ (W : World) (cc : Nat), Rd W (some ⟨b, off, none⟩) ys.length ys → ys.length ≤ cc → cc ≤ 9223372036854775807 → Calls Try.prog 134 #[.slice (some ⟨b, off, none⟩) ys.length cc] W (GivesFB W ⟨a, q, u0, u1, u2, u3, u4, d⟩ (.bool ok))) ∧ d.length ≤ 1024 ∧ (ok = false ∧ (frameFrom ys).2 ≠ 0 ∨ ok = true ∧ frameFrom ys = (⟨a, q, u0, u1, u2, u3, u4, d⟩, 0)) := by
  have hl := (isBytes_iff.1 hb).1
  rcases hf : readFrame ys with _ | f
  · refine ⟨0, 0, 0, 0, 0, 0, 0, [], false, fun W cc hR h1 h2 => ?_, by simp, .inl ⟨rfl, by rw [ff_none hb hf]; decide⟩⟩
    have h := l06Frame_any (some ⟨b, off, none⟩) cc ys W hR hb h1 h2
    rw [hf] at h
    exact h
  · obtain ⟨a, q, u0, u1, u2, u3, u4, d⟩ := f
    have hdl := readFrame_len hf
    simp only at hdl
    refine ⟨a, q, u0, u1, u2, u3, u4, d, (isFrame ⟨a, q, u0, u1, u2, u3, u4, d⟩ && decide (frameBytes ⟨a, q, u0, u1, u2, u3, u4, d⟩ = ys)), fun W cc hR h1 h2 => ?_, by omega, ?_⟩
    · have h := l06Frame_any (some ⟨b, off, none⟩) cc ys W hR hb h1 h2
      rw [hf] at h
      exact h
    · by_cases h : isFrame ⟨a, q, u0, u1, u2, u3, u4, d⟩ = true ∧ frameBytes ⟨a, q, u0, u1, u2, u3, u4, d⟩ = ys
      · exact .inr ⟨by simp [h.1, h.2], ff_yes hb hf h.1 h.2⟩
      · refine .inl ⟨?_, by rw [ff_no hb hf h]; decide⟩
        rw [Bool.and_eq_false_iff, decide_eq_false_iff_not]
        by_cases h1 : isFrame ⟨a, q, u0, u1, u2, u3, u4, d⟩ = true
        · exact .inr fun e => h ⟨h1, e⟩
        · exact .inl (by simpa using h1)
theorem l07Open_any (id t m r s k : Int) (ao : Option Addr) (cap : Nat) (xs : List Int) (w : World) (hr : Rd w ao xs.length xs) (hcap : xs.length ≤ cap) (hcap2 : cap ≤ 9223372036854775807) (hs : isState t m r s k = true) (hi : inRange 0 16777215 id = true) (hb : isBytes xs = true) : Calls Try.prog 93 #[.slice ao xs.length cap, .int .i64 id, .agg #[.int .i64 t, .int .i64 m, .int .i64 r, .int .i64 s, .int .i64 k]] w (GivesFB w (openFrame xs id t m r s k).1 (.int .i64 (openFrame xs id t m r s k).2)) := by
  by_cases hl : xs.length < 4
  · rw [of_C hs hi hb hl]; exact so_C _ _ _ _ _ _ _ _ _ _ hl
  have hbs := isBytes_iff.1 hb
  obtain ⟨c, rfl⟩ : ∃ c, cap = c + 3 := ⟨cap - 3, by omega⟩
  obtain ⟨b, off, rfl, -⟩ := hr.here (by omega)
  obtain ⟨ys, hys⟩ : ∃ ys, xs.take (xs.length - 3) = ys := ⟨_, rfl⟩
  have hyl : ys.length = xs.length - 3 := by rw [← hys, List.length_take]; omega
  have hxl : xs.length = ys.length + 3 := by omega
  have hyb : ∀ x ∈ ys, 0 ≤ x ∧ x ≤ 255 := fun x hx => hbs.2 x (List.mem_of_mem_take (by rw [hys]; exact hx))
  have hh := hbs.2 (xs.getD 0 0) (getD_mem' (by omega))
  have hx2 := sealNum_in (xs.getD 0 0 / 64) id t m r s k ys
  have h0 : ys.getD 0 0 = xs.getD 0 0 := by
    rw [← hys]
    have : 0 < xs.length - 3 := by omega
    simp only [List.getD]; rw [List.getElem?_take_of_lt this]
  have hy' : xs.take ys.length = ys := by rw [hyl]; exact hys
  have hr' : Rd w (some ⟨b, off, none⟩) (ys.length + 3) xs := by rw [← hxl]; exact hr
  have hby : isBytes ys = true := isBytes_iff.2 ⟨by omega, hyb⟩
  have hlast : lastThree xs = xs.getD ys.length 0 * 65536 + xs.getD (ys.length + 1) 0 * 256 + xs.getD (ys.length + 2) 0 := by unfold lastThree; rw [show xs.length - 3 = ys.length from hyl.symm]
  have hb0 := hbs.2 (xs.getD ys.length 0) (getD_mem' (by omega))
  have hb1 := hbs.2 (xs.getD (ys.length + 1) 0) (getD_mem' (by omega))
  have hb2 := hbs.2 (xs.getD (ys.length + 2) 0) (getD_mem' (by omega))
  by_cases hd : sealNum (xs.getD 0 0 / 64) id t m r s k ys = lastThree xs
  rotate_left
  · rw [of_D hs hi hb hl (by rw [hys]; exact hd), hxl]
    exact so_D b off c id t m r s k _ _ _ _ _ ys xs w hr' (by omega) (by omega) hcap2 hi (by omega) rfl hh hy' rfl rfl rfl hb0 hb1 hb2 rfl (by rw [← hlast, bne_iff_ne]; exact hd)
  have hdt : (sealNum (xs.getD 0 0 / 64) id t m r s k ys != xs.getD ys.length 0 * 65536 + xs.getD (ys.length + 1) 0 * 256 + xs.getD (ys.length + 2) 0) = false := by rw [← hlast, bne_eq_false_iff_eq]; exact hd
  obtain ⟨a, q, u0, u1, u2, u3, u4, d, ok, hff, hdl, hok⟩ := l06_gives hby b off
  rcases hok with ⟨rfl, hz0⟩ | ⟨rfl, hf⟩
  · rw [of_E hs hi hb hl (by rw [hys]; exact hd) (by rw [hys]; exact hz0), hxl]
    exact so_E b off c id t m r s k _ _ _ _ _ ys xs w hr' (by omega) (by omega) hcap2 hi (by omega) rfl hh hy' rfl rfl rfl hb0 hb1 hb2 rfl a q u0 u1 u2 u3 u4 d hff hdl hdt
  have hkk := hasState_ne (isFrame_parts (from_frame hf).1).1
  simp only at hkk
  rcases hst : hasState a with _ | _
  · rw [of_G hs hi hb hl (by rw [hys]; exact hd) (by rw [hys]; exact hf) (.inl hst), hxl]
    exact so_G1 b off c id t m r s k _ _ _ _ _ ys xs w hr' (by omega) (by omega) hcap2 hi (by omega) rfl hh hy' rfl rfl rfl hb0 hb1 hb2 rfl a q u0 u1 u2 u3 u4 d hff hdl hdt (by rw [hkk]; exact hst)
  by_cases hne : u0 = t ∧ u1 = m ∧ u2 = r ∧ u3 = s ∧ u4 = k
  · rw [of_G hs hi hb hl (by rw [hys]; exact hd) (by rw [hys]; exact hf) (.inr hne), hxl]
    exact so_G2 b off c id t m r s k _ _ _ _ _ ys xs w hr' (by omega) (by omega) hcap2 hi (by omega) rfl hh hy' rfl rfl rfl hb0 hb1 hb2 rfl a q u0 u1 u2 u3 u4 d hff hdl hdt (by rw [hkk]; exact hst) hne
  · rw [of_F hs hi hb hl (by rw [hys]; exact hd) (by rw [hys]; exact hf) hst hne, hxl]
    exact so_F b off c id t m r s k _ _ _ _ _ ys xs w hr' (by omega) (by omega) hcap2 hi (by omega) rfl hh hy' rfl rfl rfl hb0 hb1 hb2 rfl a q u0 u1 u2 u3 u4 d hff hdl hdt (by rw [hkk]; exact hst) hne
theorem openFrame_data (xs : List Int) (id t m r s k : Int) : (openFrame xs id t m r s k).1.data.length ≤ 32 := by
  unfold openFrame
  split
  · exact Nat.zero_le _
  split
  · exact Nat.zero_le _
  split
  · exact Nat.zero_le _
  split
  · exact Nat.zero_le _
  split
  · exact Nat.zero_le _
  split
  · exact Nat.zero_le _
  · exact frameFrom_len _
set_option linter.unusedSimpArgs false in
set_option linter.unusedVariables false in
set_option maxHeartbeats 1000000 in
set_option maxRecDepth 100000 in
theorem sp_A (id t m r s k : Int) (ao : Option Addr) (cap : Nat) (xs : List Int) (w : World) (hr : Rd w ao xs.length xs) (hn : xs.length ≤ 1048576) (hcap : xs.length ≤ cap) (hcap2 : cap ≤ 9223372036854775807) (hs : isState t m r s k = false) : Calls Try.prog 30 #[.slice ao xs.length cap, .int .i64 id, .agg #[.int .i64 t, .int .i64 m, .int .i64 r, .int .i64 s, .int .i64 k]] w (GivesFB w Fr.zero (.int .i64 1)) := by
  have S0 := Lib.hid (OpenSt.start (t := t) (m := m) (r := r) (s := s) (k := k) w)
  have HR := Lib.hid hr; clear hr
  have HS := Lib.hid hs; clear hs
  go_enter Try.func30, Try.ntmps30
  go_upto_region 1 with fail
  generalize (w.alloc (.cells #[.int .i64 t, .int .i64 m, .int .i64 r, .int .i64 s, .int .i64 k] 25)).alloc (.cells #[.int .i64 0, .int .i64 0, .int .i64 0, .int .i64 0, .int .i64 0, .int .i64 0, .int .i64 0, .slice none 0 0] 28) = w0 at S0 ⊢
  obtain ⟨d0, d1, d2, d3, d4⟩ := S0.out.cells
  go_wp2_with fail
  clear d0 d1 d2 d3 d4
  refine (sIsState_any _ _ _ _ _ _).mono ?_
  rintro e w1 ⟨rfl, b1⟩
  rw [HS.out]
  have S1 := Lib.hid (S0.out.call b1)
  clear b1 S0
  have rc0 := S1.out.res.c0
  have rf0 := S1.out.res.f 0
  have rc1 := S1.out.res.c1
  have rf1 := S1.out.res.f 1
  have rc2 := S1.out.res.c2
  have rf2 := S1.out.res.f 2
  have rc3 := S1.out.res.c3
  have rf3 := S1.out.res.f 3
  have rc4 := S1.out.res.c4
  have rf4 := S1.out.res.f 4
  have rc5 := S1.out.res.c5
  have rf5 := S1.out.res.f 5
  have rc6 := S1.out.res.c6
  have rf6 := S1.out.res.f 6
  have rc7 := S1.out.res.c7
  have rf7 := S1.out.res.f 7
  go_wp2_with fail
  clear rc0 rf0 rc1 rf1 rc2 rf2 rc3 rf3 rc4 rf4 rc5 rf5 rc6 rf6 rc7 rf7
  change bodyPost _ _ _ _ _ (setEight w1 (w.heap.size + 1) 0 0 0 0 0 0 0 (.slice none 0 0))
  obtain ⟨SF, BF⟩ := S1.out.fin 0 0 0 0 0 0 0 (.slice none 0 0)
  generalize setEight w1 (w.heap.size + 1) 0 0 0 0 0 0 0 (.slice none 0 0) = wz at SF BF ⊢
  have e0 := SF.c0
  have e1 := SF.c1
  have e2 := SF.c2
  have e3 := SF.c3
  have e4 := SF.c4
  have e5 := SF.c5
  have e6 := SF.c6
  have e7 := SF.c7
  exact bodyPost_ret (v := .tuple #[.agg #[.int .i64 0, .int .i64 0, .int .i64 0, .int .i64 0, .int .i64 0, .int .i64 0, .int .i64 0, .slice none 0 0], .int .i64 1]) (by simp [results, Try.results30, go_sem, e0, e1, e2, e3, e4, e5, e6, e7]) rfl ⟨_, _, rfl, Own.nil_, BF⟩
set_option linter.unusedSimpArgs false in
set_option linter.unusedVariables false in
set_option maxHeartbeats 1000000 in
set_option maxRecDepth 100000 in
theorem sp_B1 (id t m r s k : Int) (ao : Option Addr) (cap : Nat) (xs : List Int) (w : World) (hr : Rd w ao xs.length xs) (hn : xs.length ≤ 1048576) (hcap : xs.length ≤ cap) (hcap2 : cap ≤ 9223372036854775807) (hs : isState t m r s k = true) (hi : inRange 0 16777215 id = false) : Calls Try.prog 30 #[.slice ao xs.length cap, .int .i64 id, .agg #[.int .i64 t, .int .i64 m, .int .i64 r, .int .i64 s, .int .i64 k]] w (GivesFB w Fr.zero (.int .i64 2)) := by
  have S0 := Lib.hid (OpenSt.start (t := t) (m := m) (r := r) (s := s) (k := k) w)
  have HR := Lib.hid hr; clear hr
  have HS := Lib.hid hs; clear hs
  have HI := Lib.hid hi; clear hi
  go_enter Try.func30, Try.ntmps30
  go_upto_region 1 with fail
  generalize (w.alloc (.cells #[.int .i64 t, .int .i64 m, .int .i64 r, .int .i64 s, .int .i64 k] 25)).alloc (.cells #[.int .i64 0, .int .i64 0, .int .i64 0, .int .i64 0, .int .i64 0, .int .i64 0, .int .i64 0, .slice none 0 0] 28) = w0 at S0 ⊢
  obtain ⟨d0, d1, d2, d3, d4⟩ := S0.out.cells
  go_wp2_with fail
  clear d0 d1 d2 d3 d4
  refine (sIsState_any _ _ _ _ _ _).mono ?_
  rintro e w1 ⟨rfl, b1⟩
  rw [HS.out]
  have S1 := Lib.hid (S0.out.call b1)
  clear b1 S0
  have rc0 := S1.out.res.c0
  have rf0 := S1.out.res.f 0
  have rc1 := S1.out.res.c1
  have rf1 := S1.out.res.f 1
  have rc2 := S1.out.res.c2
  have rf2 := S1.out.res.f 2
  have rc3 := S1.out.res.c3
  have rf3 := S1.out.res.f 3
  have rc4 := S1.out.res.c4
  have rf4 := S1.out.res.f 4
  have rc5 := S1.out.res.c5
  have rf5 := S1.out.res.f 5
  have rc6 := S1.out.res.c6
  have rf6 := S1.out.res.f 6
  have rc7 := S1.out.res.c7
  have rf7 := S1.out.res.f 7
  go_wp2_with fail
  refine (l07Id_any _ _).mono ?_
  rintro e w2 ⟨rfl, rfl⟩
  rw [HI.out]
  go_wp2_with fail
  clear rc0 rf0 rc1 rf1 rc2 rf2 rc3 rf3 rc4 rf4 rc5 rf5 rc6 rf6 rc7 rf7
  change bodyPost _ _ _ _ _ (setEight w1 (w.heap.size + 1) 0 0 0 0 0 0 0 (.slice none 0 0))
  obtain ⟨SF, BF⟩ := S1.out.fin 0 0 0 0 0 0 0 (.slice none 0 0)
  generalize setEight w1 (w.heap.size + 1) 0 0 0 0 0 0 0 (.slice none 0 0) = wz at SF BF ⊢
  have e0 := SF.c0
  have e1 := SF.c1
  have e2 := SF.c2
  have e3 := SF.c3
  have e4 := SF.c4
  have e5 := SF.c5
  have e6 := SF.c6
  have e7 := SF.c7
  exact bodyPost_ret (v := .tuple #[.agg #[.int .i64 0, .int .i64 0, .int .i64 0, .int .i64 0, .int .i64 0, .int .i64 0, .int .i64 0, .slice none 0 0], .int .i64 2]) (by simp [results, Try.results30, go_sem, e0, e1, e2, e3, e4, e5, e6, e7]) rfl ⟨_, _, rfl, Own.nil_, BF⟩
set_option linter.unusedSimpArgs false in
set_option linter.unusedVariables false in
set_option maxHeartbeats 1000000 in
set_option maxRecDepth 100000 in
theorem sp_B2 (id t m r s k : Int) (ao : Option Addr) (cap : Nat) (xs : List Int) (w : World) (hr : Rd w ao xs.length xs) (hn : xs.length ≤ 1048576) (hcap : xs.length ≤ cap) (hcap2 : cap ≤ 9223372036854775807) (hs : isState t m r s k = true) (hi : inRange 0 16777215 id = true) (hb : isBytes xs = false) : Calls Try.prog 30 #[.slice ao xs.length cap, .int .i64 id, .agg #[.int .i64 t, .int .i64 m, .int .i64 r, .int .i64 s, .int .i64 k]] w (GivesFB w Fr.zero (.int .i64 2)) := by
  have S0 := Lib.hid (OpenSt.start (t := t) (m := m) (r := r) (s := s) (k := k) w)
  have HR := Lib.hid hr; clear hr
  have HS := Lib.hid hs; clear hs
  have HI := Lib.hid hi; clear hi
  have HB := Lib.hid hb; clear hb
  go_enter Try.func30, Try.ntmps30
  go_upto_region 1 with fail
  generalize (w.alloc (.cells #[.int .i64 t, .int .i64 m, .int .i64 r, .int .i64 s, .int .i64 k] 25)).alloc (.cells #[.int .i64 0, .int .i64 0, .int .i64 0, .int .i64 0, .int .i64 0, .int .i64 0, .int .i64 0, .slice none 0 0] 28) = w0 at S0 ⊢
  obtain ⟨d0, d1, d2, d3, d4⟩ := S0.out.cells
  go_wp2_with fail
  clear d0 d1 d2 d3 d4
  refine (sIsState_any _ _ _ _ _ _).mono ?_
  rintro e w1 ⟨rfl, b1⟩
  rw [HS.out]
  have S1 := Lib.hid (S0.out.call b1)
  clear b1 S0
  go_wp2_with fail
  refine (l07Id_any _ _).mono ?_
  rintro e w2 ⟨rfl, rfl⟩
  rw [HI.out]
  have rc0 := S1.out.res.c0
  have rf0 := S1.out.res.f 0
  have rc1 := S1.out.res.c1
  have rf1 := S1.out.res.f 1
  have rc2 := S1.out.res.c2
  have rf2 := S1.out.res.f 2
  have rc3 := S1.out.res.c3
  have rf3 := S1.out.res.f 3
  have rc4 := S1.out.res.c4
  have rf4 := S1.out.res.f 4
  have rc5 := S1.out.res.c5
  have rf5 := S1.out.res.f 5
  have rc6 := S1.out.res.c6
  have rf6 := S1.out.res.f 6
  have rc7 := S1.out.res.c7
  have rf7 := S1.out.res.f 7
  go_wp2_with fail
  refine (sIsBytes_any _ _ _ _ _ (HR.out.below S1.out.below) (by omega)).mono ?_
  rintro e w2 ⟨rfl, rfl⟩
  rw [HB.out]
  go_wp2_with fail
  clear rc0 rf0 rc1 rf1 rc2 rf2 rc3 rf3 rc4 rf4 rc5 rf5 rc6 rf6 rc7 rf7
  change bodyPost _ _ _ _ _ (setEight w1 (w.heap.size + 1) 0 0 0 0 0 0 0 (.slice none 0 0))
  obtain ⟨SF, BF⟩ := S1.out.fin 0 0 0 0 0 0 0 (.slice none 0 0)
  generalize setEight w1 (w.heap.size + 1) 0 0 0 0 0 0 0 (.slice none 0 0) = wz at SF BF ⊢
  have e0 := SF.c0
  have e1 := SF.c1
  have e2 := SF.c2
  have e3 := SF.c3
  have e4 := SF.c4
  have e5 := SF.c5
  have e6 := SF.c6
  have e7 := SF.c7
  exact bodyPost_ret (v := .tuple #[.agg #[.int .i64 0, .int .i64 0, .int .i64 0, .int .i64 0, .int .i64 0, .int .i64 0, .int .i64 0, .slice none 0 0], .int .i64 2]) (by simp [results, Try.results30, go_sem, e0, e1, e2, e3, e4, e5, e6, e7]) rfl ⟨_, _, rfl, Own.nil_, BF⟩
set_option linter.unusedSimpArgs false in
set_option linter.unusedVariables false in
set_option maxHeartbeats 1000000 in
set_option maxRecDepth 100000 in
theorem sp_K (id t m r s k : Int) (ao : Option Addr) (cap : Nat) (xs : List Int) (w : World) (hr : Rd w ao xs.length xs) (hn : xs.length ≤ 1048576) (hcap : xs.length ≤ cap) (hcap2 : cap ≤ 9223372036854775807) (hs : isState t m r s k = true) (hi : inRange 0 16777215 id = true) (hb : isBytes xs = true) : Calls Try.prog 30 #[.slice ao xs.length cap, .int .i64 id, .agg #[.int .i64 t, .int .i64 m, .int .i64 r, .int .i64 s, .int .i64 k]] w (GivesFB w (openFrame xs id t m r s k).1 (.int .i64 (openFrame xs id t m r s k).2)) := by
  have hop := fun (W : World) (h : Rd W ao xs.length xs) => l07Open_any id t m r s k ao cap xs W h hcap hcap2 hs hi hb
  have hol := openFrame_data xs id t m r s k
  obtain ⟨⟨a, q, u0, u1, u2, u3, u4, d⟩, z, hf⟩ : ∃ f z, openFrame xs id t m r s k = (f, z) := ⟨_, _, rfl⟩
  rw [hf] at hop hol ⊢
  simp only at hop hol ⊢
  have HOP := Lib.hid hop; clear hop hf
  have S0 := Lib.hid (OpenSt.start (t := t) (m := m) (r := r) (s := s) (k := k) w)
  have HR := Lib.hid hr; clear hr
  have HS := Lib.hid hs; clear hs
  have HI := Lib.hid hi; clear hi
  have HB := Lib.hid hb; clear hb
  go_enter Try.func30, Try.ntmps30
  go_upto_region 1 with fail
  generalize (w.alloc (.cells #[.int .i64 t, .int .i64 m, .int .i64 r, .int .i64 s, .int .i64 k] 25)).alloc (.cells #[.int .i64 0, .int .i64 0, .int .i64 0, .int .i64 0, .int .i64 0, .int .i64 0, .int .i64 0, .slice none 0 0] 28) = w0 at S0 ⊢
  obtain ⟨d0, d1, d2, d3, d4⟩ := S0.out.cells
  go_wp2_with fail
  clear d0 d1 d2 d3 d4
  refine (sIsState_any _ _ _ _ _ _).mono ?_
  rintro e w1 ⟨rfl, b1⟩
  rw [HS.out]
  have S1 := Lib.hid (S0.out.call b1)
  clear b1 S0
  go_wp2_with fail
  refine (l07Id_any _ _).mono ?_
  rintro e w2 ⟨rfl, rfl⟩
  rw [HI.out]
  obtain ⟨d0, d1, d2, d3, d4⟩ := S1.out.cells
  go_wp2_with fail
  refine (sIsBytes_any _ _ _ _ _ (HR.out.below S1.out.below) (by omega)).mono ?_
  rintro e w2 ⟨rfl, rfl⟩
  rw [HB.out]
  go_wp2_with fail
  clear d0 d1 d2 d3 d4
  refine (HOP.out _ (HR.out.below S1.out.below)).mono ?_
  rintro e w8 ⟨p8, c8, rfl, o8, b8⟩
  simp only at o8 ⊢
  have hsz := S1.out.size
  have S8 := Lib.hid (S1.out.call b8)
  have O8 := Lib.hid (o8.more (base' := w.heap.size + 2) hsz)
  clear o8 b8 hsz S1
  have rc0 := S8.out.res.c0
  have rf0 := S8.out.res.f 0
  have rc1 := S8.out.res.c1
  have rf1 := S8.out.res.f 1
  have rc2 := S8.out.res.c2
  have rf2 := S8.out.res.f 2
  have rc3 := S8.out.res.c3
  have rf3 := S8.out.res.f 3
  have rc4 := S8.out.res.c4
  have rf4 := S8.out.res.f 4
  have rc5 := S8.out.res.c5
  have rf5 := S8.out.res.f 5
  have rc6 := S8.out.res.c6
  have rf6 := S8.out.res.f 6
  have rc7 := S8.out.res.c7
  have rf7 := S8.out.res.f 7
  go_wp2_with fail
  clear rc0 rf0 rc1 rf1 rc2 rf2 rc3 rf3 rc4 rf4 rc5 rf5 rc6 rf6 rc7 rf7
  change bodyPost _ _ _ _ _ (setEight w8 (w.heap.size + 1) a q u0 u1 u2 u3 u4 (.slice p8 d.length c8))
  obtain ⟨SF, BF⟩ := S8.out.fin a q u0 u1 u2 u3 u4 (.slice p8 d.length c8)
  have OF := (O8.out.awayEight (b := w.heap.size + 1) (Nat.lt_succ_self _) a q u0 u1 u2 u3 u4 (.slice p8 d.length c8)).more (base' := w.heap.size) (by omega)
  generalize setEight w8 (w.heap.size + 1) a q u0 u1 u2 u3 u4 (.slice p8 d.length c8) = wz at SF BF OF ⊢
  have e0 := SF.c0
  have e1 := SF.c1
  have e2 := SF.c2
  have e3 := SF.c3
  have e4 := SF.c4
  have e5 := SF.c5
  have e6 := SF.c6
  have e7 := SF.c7
  exact bodyPost_ret (v := .tuple #[.agg #[.int .i64 a, .int .i64 q, .int .i64 u0, .int .i64 u1, .int .i64 u2, .int .i64 u3, .int .i64 u4, .slice p8 d.length c8], .int .i64 z]) (by simp [results, Try.results30, go_sem, e0, e1, e2, e3, e4, e5, e6, e7]) rfl ⟨_, _, rfl, OF, BF⟩
theorem sOpenFrame_any (id t m r s k : Int) (ao : Option Addr) (cap : Nat) (xs : List Int) (w : World) (hr : Rd w ao xs.length xs) (hn : xs.length ≤ 1048576) (hcap : xs.length ≤ cap) (hcap2 : cap ≤ 9223372036854775807) : Calls Try.prog 30 #[.slice ao xs.length cap, .int .i64 id, .agg #[.int .i64 t, .int .i64 m, .int .i64 r, .int .i64 s, .int .i64 k]] w (GivesFB w (openFrame xs id t m r s k).1 (.int .i64 (openFrame xs id t m r s k).2)) := by
  rcases hs : isState t m r s k with _ | _
  · rw [of_A hs]; exact sp_A _ _ _ _ _ _ _ _ _ _ hr hn hcap hcap2 hs
  rcases hi : inRange 0 16777215 id with _ | _
  · rw [of_B hs (.inl hi)]; exact sp_B1 _ _ _ _ _ _ _ _ _ _ hr hn hcap hcap2 hs hi
  rcases hb : isBytes xs with _ | _
  · rw [of_B hs (.inr hb)]; exact sp_B2 _ _ _ _ _ _ _ _ _ _ hr hn hcap hcap2 hs hi hb
  exact sp_K _ _ _ _ _ _ _ _ _ _ hr hn hcap hcap2 hs hi hb
/-- Whether a list is opened. -/
def isOpenable (xs : List Int) (id t m r s k : Int) : Bool := (openFrame xs id t m r s k).2 == 0
set_option linter.unusedSimpArgs false in
set_option linter.unusedVariables false in
set_option maxHeartbeats 1000000 in
set_option maxRecDepth 100000 in
theorem isOpenable_any (id t m r s k : Int) (ao : Option Addr) (cap : Nat) (xs : List Int) (w : World) (hr : Rd w ao xs.length xs) (hn : xs.length ≤ 1048576) (hcap : xs.length ≤ cap) (hcap2 : cap ≤ 9223372036854775807) : Calls Try.prog 28 #[.slice ao xs.length cap, .int .i64 id, .agg #[.int .i64 t, .int .i64 m, .int .i64 r, .int .i64 s, .int .i64 k]] w fun e w' => e = .returned (.bool (isOpenable xs id t m r s k)) ∧ Below w.heap.size w w' := by
  have hop := fun (W : World) (h : Rd W ao xs.length xs) => openFrame_any id t m r s k ao cap xs W h hn hcap hcap2
  have hio : isOpenable xs id t m r s k = ((openFrame xs id t m r s k).2 == 0) := rfl
  rw [hio]
  obtain ⟨⟨a, q, u0, u1, u2, u3, u4, d⟩, z, hf⟩ : ∃ f z, openFrame xs id t m r s k = (f, z) := ⟨_, _, rfl⟩
  rw [hf] at hop ⊢
  simp only at hop ⊢
  have HOP := Lib.hid hop; clear hop hf hio
  have hb0 : Below w.heap.size w (w.alloc (.cells #[.int .i64 t, .int .i64 m, .int .i64 r, .int .i64 s, .int .i64 k] 25)) := (Below.refl _ _).alloc (Nat.le_refl _) _
  have S0 := Lib.hid (StateAt.new (T := 25) (t := t) (m := m) (r := r) (s := s) (k := k) w)
  have HR := Lib.hid (hr.below hb0); have HB := Lib.hid hb0; clear hr hb0
  go_enter Try.func28, Try.ntmps28
  go_upto_region 1 with fail
  generalize w.alloc (.cells #[.int .i64 t, .int .i64 m, .int .i64 r, .int .i64 s, .int .i64 k] 25) = w0 at S0 HR HB ⊢
  obtain ⟨d0, d1, d2, d3, d4⟩ := state_cells S0.out
  go_wp2_with fail
  clear d0 d1 d2 d3 d4
  refine (HOP.out _ HR.out).mono ?_
  rintro e w8 ⟨p8, c8, rfl, o8, b8⟩
  simp only
  have B8 := Lib.hid (below_two HB.out b8)
  clear o8 b8
  go_wp2
  go_ret
  exact ⟨rfl, (B8.out.alloc B8.out.size _)⟩
set_option linter.unusedSimpArgs false in
set_option linter.unusedVariables false in
set_option maxHeartbeats 1000000 in
set_option maxRecDepth 100000 in
theorem sIsOpenable_any (id t m r s k : Int) (ao : Option Addr) (cap : Nat) (xs : List Int) (w : World) (hr : Rd w ao xs.length xs) (hn : xs.length ≤ 1048576) (hcap : xs.length ≤ cap) (hcap2 : cap ≤ 9223372036854775807) : Calls Try.prog 63 #[.slice ao xs.length cap, .int .i64 id, .agg #[.int .i64 t, .int .i64 m, .int .i64 r, .int .i64 s, .int .i64 k]] w fun e w' => e = .returned (.bool (isOpenable xs id t m r s k)) ∧ Below w.heap.size w w' := by
  have hop := fun (W : World) (h : Rd W ao xs.length xs) => sOpenFrame_any id t m r s k ao cap xs W h hn hcap hcap2
  have hio : isOpenable xs id t m r s k = ((openFrame xs id t m r s k).2 == 0) := rfl
  rw [hio]
  obtain ⟨⟨a, q, u0, u1, u2, u3, u4, d⟩, z, hf⟩ : ∃ f z, openFrame xs id t m r s k = (f, z) := ⟨_, _, rfl⟩
  rw [hf] at hop ⊢
  simp only at hop ⊢
  have HOP := Lib.hid hop; clear hop hf hio
  have hb0 : Below w.heap.size w (w.alloc (.cells #[.int .i64 t, .int .i64 m, .int .i64 r, .int .i64 s, .int .i64 k] 25)) := (Below.refl _ _).alloc (Nat.le_refl _) _
  have S0 := Lib.hid (StateAt.new (T := 25) (t := t) (m := m) (r := r) (s := s) (k := k) w)
  have HR := Lib.hid (hr.below hb0); have HB := Lib.hid hb0; clear hr hb0
  go_enter Try.func63, Try.ntmps63
  go_upto_region 1 with fail
  generalize w.alloc (.cells #[.int .i64 t, .int .i64 m, .int .i64 r, .int .i64 s, .int .i64 k] 25) = w0 at S0 HR HB ⊢
  obtain ⟨d0, d1, d2, d3, d4⟩ := state_cells S0.out
  go_wp2_with fail
  clear d0 d1 d2 d3 d4
  refine (HOP.out _ HR.out).mono ?_
  rintro e w8 ⟨p8, c8, rfl, o8, b8⟩
  simp only
  have B8 := Lib.hid (below_two HB.out b8)
  clear o8 b8
  go_wp2
  go_ret
  exact ⟨rfl, (B8.out.alloc B8.out.size _)⟩
end Go.Proofs.Ytbdfnkhmnglpbaa
