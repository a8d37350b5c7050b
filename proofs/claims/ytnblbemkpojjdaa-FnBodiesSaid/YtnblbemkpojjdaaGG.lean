/-
  Chapter 6: l06Frame as a whole; FrameFromBody of the model.
-/
import Derived.Test.YtnblbemkpojjdaaGFA
import Derived.Test.YtnblbemkpojjdaaGFB
import Derived.Test.YtnblbemkpojjdaaGFC
namespace Go.Proofs.Ytnblbemkpojjdaa
open Go.RowKit

/-- What the model's reader hands back. -/
def GivesSpec (w : World) (xs : List Int) (x : Option Fr) (e : Ending) (w' : World) : Prop := match x with
  | none => GivesFB w Fr.zero (.bool false) e w'
  | some f => GivesFB w f (.bool (isFrame f && decide (frameBytes f = xs))) e w'
set_option maxRecDepth 100000 in
theorem l06Frame_nil (ao : Option Addr) (cap : Nat) (w : World) : Calls Try.prog 59 #[.slice ao 0 cap] w (GivesFB w Fr.zero (.bool false)) := by
  go_enter Try.func59, Try.ntmps59
  go_wp2_with fail
  exact bodyPost_ret (v := .tuple #[.agg #[.int .i64 0, .int .i64 0, .int .i64 0, .int .i64 0, .int .i64 0, .int .i64 0, .int .i64 0, .slice none 0 0], .bool false]) (by simp [results, Try.results59, go_sem]) rfl ⟨_, _, rfl, Own.nil_, (Below.refl _ _).alloc (Nat.le_refl _) _⟩
theorem head_ok {h : Int} (h0 : 0 ≤ h ∧ h ≤ 255) : kindOk (h / 64) = true := inRange_iff.2 ⟨by omega, by omega⟩
theorem l06Frame_any (ao : Option Addr) (cap : Nat) (xs : List Int) (w : World) (hr : Rd w ao xs.length xs) (hb : isBytes xs = true) (hcap : xs.length ≤ cap) (hcap2 : cap ≤ 9223372036854775807) :
    Calls Try.prog 59 #[.slice ao xs.length cap] w (GivesSpec w xs (readFrame xs)) := by
  obtain ⟨hbl, hbx⟩ := isBytes_iff.1 hb
  by_cases h0 : xs.length = 0
  · rw [rf_nil h0, h0]
    exact l06Frame_nil ao cap w
  obtain ⟨b, off, rfl, hat⟩ := hr.here (by omega)
  obtain ⟨b', off', e', hlt⟩ := hr.block (by omega)
  cases e'
  have hc : w.cell? ⟨b, off, none⟩ = some (.int .i64 (xs.getD 0 0)) := hat 0 (by omega)
  have hh : 0 ≤ xs.getD 0 0 ∧ xs.getD 0 0 ≤ 255 := hbx _ (by
    have h1 : 0 < xs.length := by omega
    simp [List.getD, h1])
  have hD : ∀ j, j ≤ xs.length → ∀ W o' c, Below w.heap.size w W → (o' = off + j ∨ xs.drop j = []) → Calls Try.prog 79 #[.slice (some ⟨b, o', none⟩) (xs.drop j).length c] W (Makes 2 W (xs.drop j)) := by
    intro j hj W o' c hB ho
    refine l01Own_any _ c _ W ?_ (by rw [List.length_drop]; omega)
    rcases ho with rfl | he
    · have h1 := rd_part (hr.rest (a := j) hj)
      rw [List.length_drop]
      exact h1.below hB
    · rw [he]; exact rd_empty
  have hne := hasState_ne (head_ok hh)
  rcases hx : hasState (xs.getD 0 0 / 64) with _ | _ <;> rw [hx] at hne
  · rcases hy : hasData (xs.getD 0 0 / 64) with _ | _
    · rw [rf_00 hx hy (by omega)]
      obtain ⟨n, hn⟩ : ∃ n, xs.length = n + 1 := ⟨xs.length - 1, by omega⟩
      obtain ⟨e, rfl⟩ : ∃ e, cap = e + 1 := ⟨cap - 1, by omega⟩
      have hr' := hr
      rw [hn]
      by_cases he : e = 0
      · subst he; exact sp00_1 b off 0 n w _ _ _ 0 0 0 0 0 [] [] hlt hc (by omega) (by omega) hh rfl rfl hne hy xs hn hr' hbl
      · exact sp00_0 b off e n w _ _ _ 0 0 0 0 0 [] [] hlt hc (by omega) hcap2 hh rfl rfl hne hy he xs hn hr' hbl
    · by_cases h1 : xs.length = 1
      · rw [rf_01n hx hy h1, h1]
        obtain ⟨e, rfl⟩ : ∃ e, cap = e + 1 := ⟨cap - 1, by omega⟩
        by_cases he : e = 0
        · subst he; exact sp01n_1 b off 0 0 w _ _ _ 0 0 0 0 0 [] [] hlt hc (by omega) (by omega) hh rfl rfl hne hy
        · exact sp01n_0 b off e 0 w _ _ _ 0 0 0 0 0 [] [] hlt hc (by omega) hcap2 hh rfl rfl hne hy he
      · rw [rf_01 hx hy (by omega)]
        have hd := hD 2 (by omega)
        have hn : xs.length = (xs.drop 2).length + 2 := by rw [List.length_drop]; omega
        have hdl : (xs.drop 2).length ≤ 1024 := by rw [List.length_drop]; omega
        generalize xs.drop 2 = d at hd hn hdl ⊢
        obtain ⟨e, rfl⟩ : ∃ e, cap = e + 1 := ⟨cap - 1, by omega⟩
        have hr' := hr
        rw [hn]
        by_cases he : e = 1
        · subst he; exact sp01_1 b off 0 0 w _ _ _ 0 0 0 0 0 d [] hlt hc (by omega) (by omega) hh rfl rfl hne hy hdl xs hn hr' hbl hd
        · exact sp01_0 b off e 0 w _ _ _ 0 0 0 0 0 d [] hlt hc (by omega) hcap2 hh rfl rfl hne hy he hdl xs hn hr' hbl hd
  · by_cases h9 : xs.length < 9
    · rw [rf_short h0 hx h9]
      obtain ⟨n, hn⟩ : ∃ n, xs.length = n + 1 := ⟨xs.length - 1, by omega⟩
      obtain ⟨e, rfl⟩ : ∃ e, cap = e + 1 := ⟨cap - 1, by omega⟩
      rw [hn]
      rcases hy : hasData (xs.getD 0 0 / 64) with _ | _
      · by_cases he : e = 0
        · subst he; exact spS0_1 b off 0 n w _ _ _ 0 0 0 0 0 [] [] hlt hc (by omega) (by omega) hh rfl rfl hne hy (by omega)
        · exact spS0_0 b off e n w _ _ _ 0 0 0 0 0 [] [] hlt hc (by omega) hcap2 hh rfl rfl hne hy he (by omega)
      · by_cases he : e = 0
        · subst he; exact spS1_1 b off 0 n w _ _ _ 0 0 0 0 0 [] [] hlt hc (by omega) (by omega) hh rfl rfl hne hy (by omega)
        · exact spS1_0 b off e n w _ _ _ 0 0 0 0 0 [] [] hlt hc (by omega) hcap2 hh rfl rfl hne hy he (by omega)
    · have hl8 : ((xs.drop 1).take 8).length = 8 := by rw [List.length_take, List.length_drop]; omega
      have hsb : ∀ W c, Below w.heap.size w W → Calls Try.prog 78 #[.slice (some ⟨b, off + 1, none⟩) 8 c] W (Makes 2 W (bitsOf8 ((xs.drop 1).take 8))) := fun W c hB => by
        have h1 := l01Bits_any (some ⟨b, off + 1, none⟩) c ((xs.drop 1).take 8) W (by rw [hl8]; exact (rd_part (hr.slice (a := 1) (k := 8) (by omega))).below hB) (by omega)
        rw [hl8] at h1
        exact h1
      have hbs : (bitsOf8 ((xs.drop 1).take 8)).length = 64 := by rw [bits8_len, hl8]
      have hss : ∀ W p c, Rd W p 64 (bitsOf8 ((xs.drop 1).take 8)) → Calls Try.prog 77 #[.slice p 64 c] W (GivesState W (numIn (bitsOf8 ((xs.drop 1).take 8)) 0 16) (numIn (bitsOf8 ((xs.drop 1).take 8)) 16 4) (numIn (bitsOf8 ((xs.drop 1).take 8)) 20 4) (numIn (bitsOf8 ((xs.drop 1).take 8)) 24 8) (numIn (bitsOf8 ((xs.drop 1).take 8)) 32 32)) :=
        fun W p c hR => l04State_any p c _ W hR (flat_bits8 _)
      obtain ⟨e, rfl⟩ : ∃ e, cap = e + 9 := ⟨cap - 9, by omega⟩
      rcases hy : hasData (xs.getD 0 0 / 64) with _ | _
      · rw [rf_10 hx hy (by omega)]
        obtain ⟨n, hn⟩ : ∃ n, xs.length = n + 9 := ⟨xs.length - 9, by omega⟩
        have hr' := hr
        rw [hn]
        by_cases he : e = 0
        · subst he; exact sp10_1 b off 0 n w _ _ _ _ _ _ _ _ [] _ hlt hc (by omega) (by omega) hh rfl rfl hne hy xs hn hr' hbl hsb hbs hss
        · exact sp10_0 b off e n w _ _ _ _ _ _ _ _ [] _ hlt hc (by omega) hcap2 hh rfl rfl hne hy he xs hn hr' hbl hsb hbs hss
      · by_cases h1 : xs.length = 9
        · rw [rf_11n hx hy h1, h1]
          by_cases he : e = 0
          · subst he; exact sp11n_1 b off 0 0 w _ _ _ _ _ _ _ _ [] _ hlt hc (by omega) (by omega) hh rfl rfl hne hy hsb hbs hss
          · exact sp11n_0 b off e 0 w _ _ _ _ _ _ _ _ [] _ hlt hc (by omega) hcap2 hh rfl rfl hne hy he hsb hbs hss
        · rw [rf_11 hx hy (by omega)]
          have hd := hD 10 (by omega)
          have hn : xs.length = (xs.drop 10).length + 10 := by rw [List.length_drop]; omega
          have hdl : (xs.drop 10).length ≤ 1024 := by rw [List.length_drop]; omega
          generalize xs.drop 10 = d at hd hn hdl ⊢
          have hr' := hr
          rw [hn]
          by_cases he : e = 1
          · subst he; exact sp11_1 b off 0 0 w _ _ _ _ _ _ _ _ d _ hlt hc (by omega) (by omega) hh rfl rfl hne hy hdl xs hn hr' hbl hsb hbs hss hd
          · exact sp11_0 b off e 0 w _ _ _ _ _ _ _ _ d _ hlt hc (by omega) hcap2 hh rfl rfl hne hy he hdl xs hn hr' hbl hsb hbs hss hd

set_option linter.unusedVariables false in
set_option maxRecDepth 100000 in
theorem sfrom_range (ao : Option Addr) (cap : Nat) (xs : List Int) (w : World) (hr : Rd w ao xs.length xs) (hn : xs.length ≤ 1048576) (hcap : xs.length ≤ cap) (hcap2 : cap ≤ 9223372036854775807) (hb : isBytes xs = false) :
    Calls Try.prog 24 #[.slice ao xs.length cap] w (GivesFB w Fr.zero (.int .i64 2)) := by
  have hb0 : Below w.heap.size w (w.alloc (.cells #[.int .i64 0, .int .i64 0, .int .i64 0, .int .i64 0, .int .i64 0, .int .i64 0, .int .i64 0, .slice none 0 0] 28)) := (Below.refl _ _).alloc (Nat.le_refl _) _
  have HR := Lib.hid (hr.below hb0); clear hb0 hr
  have HB := Lib.hid hb; clear hb
  go_enter Try.func24, Try.ntmps24
  go_wp2_with (go_at_call 50; refine (sIsBytes_any _ _ _ _ _ HR.out (by omega)).mono ?_; rintro e w' ⟨rfl, rfl⟩; rw [HB.out])
  exact bodyPost_ret (v := .tuple #[.agg #[.int .i64 0, .int .i64 0, .int .i64 0, .int .i64 0, .int .i64 0, .int .i64 0, .int .i64 0, .slice none 0 0], .int .i64 2]) (by simp [results, Try.results24, go_sem]) rfl ⟨_, _, rfl, Own.nil_, (Below.refl _ _).alloc (Nat.le_refl _) _⟩
set_option maxHeartbeats 1000000 in
set_option linter.unusedVariables false in
set_option maxRecDepth 100000 in
theorem sfrom_yes (ao : Option Addr) (cap : Nat) (xs : List Int) (w : World) (hr : Rd w ao xs.length xs) (hn : xs.length ≤ 1048576) (hcap : xs.length ≤ cap) (hcap2 : cap ≤ 9223372036854775807) (a q t m r s k : Int) (d : List Int) (hb : isBytes xs = true) (hG : ∀ W e w', GivesSpec W xs (readFrame xs) e w' → GivesFB W ⟨a, q, t, m, r, s, k, d⟩ (.bool true) e w') :
    Calls Try.prog 24 #[.slice ao xs.length cap] w (GivesFB w ⟨a, q, t, m, r, s, k, d⟩ (.int .i64 0)) := by
  have hb0 : Below w.heap.size w (w.alloc (.cells #[.int .i64 0, .int .i64 0, .int .i64 0, .int .i64 0, .int .i64 0, .int .i64 0, .int .i64 0, .slice none 0 0] 28)) := (Below.refl _ _).alloc (Nat.le_refl _) _
  have HR := Lib.hid (hr.below hb0); clear hb0 hr
  have HB := Lib.hid hb; have HG := Lib.hid hG; clear hb hG
  go_enter Try.func24, Try.ntmps24
  go_wp2_with (go_at_call 50; refine (sIsBytes_any _ _ _ _ _ HR.out (by omega)).mono ?_; rintro e w' ⟨rfl, rfl⟩; rw [HB.out])
  refine (l06Frame_any _ _ _ _ HR.out HB.out hcap hcap2).mono ?_
  intro e w1 h1
  obtain ⟨p1, c1, rfl, o1, b1⟩ := HG.out _ _ _ h1
  clear h1
  simp only at o1 ⊢
  have S1 := Lib.hid (FromSt.start (a := a) (q := q) (t := t) (m := m) (r := r) (s := s) (k := k) b1 o1)
  clear b1 o1
  go_upto_region 4 with fail
  obtain ⟨J, hJ⟩ : ∃ b, b = w1.heap.size := ⟨_, rfl⟩
  rw [← hJ] at S1 ⊢
  clear hJ
  generalize w1.alloc (.cells #[.int .i64 a, .int .i64 q, .int .i64 t, .int .i64 m, .int .i64 r, .int .i64 s, .int .i64 k, .slice p1 d.length c1] 28) = w2 at S1 ⊢
  have d0 := S1.out.res.c0
  have f0 := S1.out.res.f 0
  have c0' := S1.out.var.c0
  have d1 := S1.out.res.c1
  have f1 := S1.out.res.f 1
  have c1' := S1.out.var.c1
  have d2 := S1.out.res.c2
  have f2 := S1.out.res.f 2
  have c2' := S1.out.var.c2
  have d3 := S1.out.res.c3
  have f3 := S1.out.res.f 3
  have c3' := S1.out.var.c3
  have d4 := S1.out.res.c4
  have f4 := S1.out.res.f 4
  have c4' := S1.out.var.c4
  have d5 := S1.out.res.c5
  have f5 := S1.out.res.f 5
  have c5' := S1.out.var.c5
  have d6 := S1.out.res.c6
  have f6 := S1.out.res.f 6
  have c6' := S1.out.var.c6
  have d7 := S1.out.res.c7
  have f7 := S1.out.res.f 7
  have c7' := S1.out.var.c7
  go_wp2_with fail
  clear d0 d1 d2 d3 d4 d5 d6 d7 f0 f1 f2 f3 f4 f5 f6 f7 c0' c1' c2' c3' c4' c5' c6' c7'
  change bodyPost _ _ _ _ _ (setEight w2 w.heap.size a q t m r s k (.slice p1 d.length c1))
  obtain ⟨SF, BF, OF⟩ := S1.out.fin a q t m r s k (.slice p1 d.length c1)
  generalize setEight w2 w.heap.size a q t m r s k (.slice p1 d.length c1) = wz at SF BF OF ⊢
  have e0 := SF.c0
  have e1 := SF.c1
  have e2 := SF.c2
  have e3 := SF.c3
  have e4 := SF.c4
  have e5 := SF.c5
  have e6 := SF.c6
  have e7 := SF.c7
  exact bodyPost_ret (v := .tuple #[.agg #[.int .i64 a, .int .i64 q, .int .i64 t, .int .i64 m, .int .i64 r, .int .i64 s, .int .i64 k, .slice p1 d.length c1], .int .i64 0]) (by simp [results, Try.results24, go_sem, e0, e1, e2, e3, e4, e5, e6, e7]) rfl ⟨_, _, rfl, OF, BF⟩
set_option maxHeartbeats 1000000 in
set_option linter.unusedVariables false in
set_option maxRecDepth 100000 in
theorem sfrom_no (ao : Option Addr) (cap : Nat) (xs : List Int) (w : World) (hr : Rd w ao xs.length xs) (hn : xs.length ≤ 1048576) (hcap : xs.length ≤ cap) (hcap2 : cap ≤ 9223372036854775807) (a q t m r s k : Int) (d : List Int) (hb : isBytes xs = true) (hG : ∀ W e w', GivesSpec W xs (readFrame xs) e w' → GivesFB W ⟨a, q, t, m, r, s, k, d⟩ (.bool false) e w') :
    Calls Try.prog 24 #[.slice ao xs.length cap] w (GivesFB w Fr.zero (.int .i64 6)) := by
  have hb0 : Below w.heap.size w (w.alloc (.cells #[.int .i64 0, .int .i64 0, .int .i64 0, .int .i64 0, .int .i64 0, .int .i64 0, .int .i64 0, .slice none 0 0] 28)) := (Below.refl _ _).alloc (Nat.le_refl _) _
  have HR := Lib.hid (hr.below hb0); clear hb0 hr
  have HB := Lib.hid hb; have HG := Lib.hid hG; clear hb hG
  go_enter Try.func24, Try.ntmps24
  go_wp2_with (go_at_call 50; refine (sIsBytes_any _ _ _ _ _ HR.out (by omega)).mono ?_; rintro e w' ⟨rfl, rfl⟩; rw [HB.out])
  refine (l06Frame_any _ _ _ _ HR.out HB.out hcap hcap2).mono ?_
  intro e w1 h1
  obtain ⟨p1, c1, rfl, o1, b1⟩ := HG.out _ _ _ h1
  clear h1
  simp only at o1 ⊢
  have S1 := Lib.hid (FromSt.start (a := a) (q := q) (t := t) (m := m) (r := r) (s := s) (k := k) b1 o1)
  clear b1 o1
  go_upto_region 4 with fail
  obtain ⟨J, hJ⟩ : ∃ b, b = w1.heap.size := ⟨_, rfl⟩
  rw [← hJ] at S1 ⊢
  clear hJ
  generalize w1.alloc (.cells #[.int .i64 a, .int .i64 q, .int .i64 t, .int .i64 m, .int .i64 r, .int .i64 s, .int .i64 k, .slice p1 d.length c1] 28) = w2 at S1 ⊢
  have d0 := S1.out.res.c0
  have f0 := S1.out.res.f 0
  have d1 := S1.out.res.c1
  have f1 := S1.out.res.f 1
  have d2 := S1.out.res.c2
  have f2 := S1.out.res.f 2
  have d3 := S1.out.res.c3
  have f3 := S1.out.res.f 3
  have d4 := S1.out.res.c4
  have f4 := S1.out.res.f 4
  have d5 := S1.out.res.c5
  have f5 := S1.out.res.f 5
  have d6 := S1.out.res.c6
  have f6 := S1.out.res.f 6
  have d7 := S1.out.res.c7
  have f7 := S1.out.res.f 7
  go_wp2_with fail
  clear d0 d1 d2 d3 d4 d5 d6 d7 f0 f1 f2 f3 f4 f5 f6 f7
  change bodyPost _ _ _ _ _ (setEight w2 w.heap.size 0 0 0 0 0 0 0 (.slice none 0 0))
  obtain ⟨SF, BF, OF⟩ := S1.out.fin 0 0 0 0 0 0 0 (.slice none 0 0)
  generalize setEight w2 w.heap.size 0 0 0 0 0 0 0 (.slice none 0 0) = wz at SF BF OF ⊢
  have e0 := SF.c0
  have e1 := SF.c1
  have e2 := SF.c2
  have e3 := SF.c3
  have e4 := SF.c4
  have e5 := SF.c5
  have e6 := SF.c6
  have e7 := SF.c7
  exact bodyPost_ret (v := .tuple #[.agg #[.int .i64 0, .int .i64 0, .int .i64 0, .int .i64 0, .int .i64 0, .int .i64 0, .int .i64 0, .slice none 0 0], .int .i64 6]) (by simp [results, Try.results24, go_sem, e0, e1, e2, e3, e4, e5, e6, e7]) rfl ⟨_, _, rfl, Own.nil_, BF⟩
theorem sFrameFromBody_any (ao : Option Addr) (cap : Nat) (xs : List Int) (w : World) (hr : Rd w ao xs.length xs) (hn : xs.length ≤ 1048576) (hcap : xs.length ≤ cap) (hcap2 : cap ≤ 9223372036854775807) :
    Calls Try.prog 24 #[.slice ao xs.length cap] w (GivesFB w (frameFrom xs).1 (.int .i64 (frameFrom xs).2)) := by
  rcases hb : isBytes xs with _ | _
  · rw [ff_range hb]; exact sfrom_range ao cap xs w hr hn hcap hcap2 hb
  rcases hf : readFrame xs with _ | f
  · rw [ff_none hb hf]; exact sfrom_no ao cap xs w hr hn hcap hcap2 0 0 0 0 0 0 0 [] hb (fun W e w' h => by rw [hf] at h; exact h)
  obtain ⟨a, q, t, m, r, s, k, d⟩ := f
  rcases hi : isFrame ⟨a, q, t, m, r, s, k, d⟩ with _ | _
  · rw [ff_no hb hf (fun h => by rw [hi] at h; cases h.1)]
    exact sfrom_no ao cap xs w hr hn hcap hcap2 a q t m r s k d hb (fun W e w' h => by rw [hf] at h; simp only [GivesSpec] at h; rw [hi, Bool.false_and] at h; exact h)
  by_cases hx : frameBytes ⟨a, q, t, m, r, s, k, d⟩ = xs
  · rw [ff_yes hb hf hi hx]
    exact sfrom_yes ao cap xs w hr hn hcap hcap2 a q t m r s k d hb (fun W e w' h => by rw [hf] at h; simp only [GivesSpec] at h; rw [hi, decide_eq_true hx] at h; exact h)
  · rw [ff_no hb hf (fun h => hx h.2)]
    exact sfrom_no ao cap xs w hr hn hcap hcap2 a q t m r s k d hb (fun W e w' h => by rw [hf] at h; simp only [GivesSpec] at h; rw [hi, decide_eq_false hx] at h; exact h)
end Go.Proofs.Ytnblbemkpojjdaa
