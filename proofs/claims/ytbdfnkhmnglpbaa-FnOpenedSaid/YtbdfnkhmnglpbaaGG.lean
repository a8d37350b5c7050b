/-
  Chapter 6: l06Frame as a whole; FrameFromBody of the model.
-/
import Derived.Test.YtbdfnkhmnglpbaaSixF
import Derived.Test.YtbdfnkhmnglpbaaSixG
namespace Go.Proofs.Ytbdfnkhmnglpbaa
open Go.RowKit

/-- What the model's reader hands back. -/
def GivesSpec (w : World) (xs : List Int) (x : Option Fr) (e : Ending) (w' : World) : Prop := match x with
  | none => GivesFB w Fr.zero (.bool false) e w'
  | some f => GivesFB w f (.bool (isFrame f && decide (frameBytes f = xs))) e w'
set_option maxRecDepth 100000 in
theorem l06Frame_nil (ao : Option Addr) (cap : Nat) (w : World) : Calls Try.prog 134 #[.slice ao 0 cap] w (GivesFB w Fr.zero (.bool false)) := by
  go_enter Try.func134, Try.ntmps134
  go_wp2_with fail
  exact bodyPost_ret (v := .tuple #[.agg #[.int .i64 0, .int .i64 0, .int .i64 0, .int .i64 0, .int .i64 0, .int .i64 0, .int .i64 0, .slice none 0 0], .bool false]) (by simp [results, Try.results134, go_sem]) rfl ⟨_, _, rfl, Own.nil_, (Below.refl _ _).alloc (Nat.le_refl _) _⟩
theorem head_ok {h : Int} (h0 : 0 ≤ h ∧ h ≤ 255) : kindOk (h / 64) = true := inRange_iff.2 ⟨by omega, by omega⟩
theorem l06Frame_any (ao : Option Addr) (cap : Nat) (xs : List Int) (w : World) (hr : Rd w ao xs.length xs) (hb : isBytes xs = true) (hcap : xs.length ≤ cap) (hcap2 : cap ≤ 9223372036854775807) :
    Calls Try.prog 134 #[.slice ao xs.length cap] w (GivesSpec w xs (readFrame xs)) := by
  obtain ⟨hbl, hbx⟩ := isBytes_iff.1 hb
  by_cases h0 : xs.length = 0
  · rw [rf_nil h0, h0]
    exact l06Frame_nil ao cap w
  obtain ⟨b, off, rfl, hat⟩ := hr.here (by omega)
  obtain ⟨b', off', e', hlt⟩ := hr.block (by omega)
  cases e'
  have hc : w.cell? ⟨b, off, none⟩ = some (.int .i64 (xs.getD 0 0)) := hat 0 (by omega)
  have hh : 0 ≤ xs.getD 0 0 ∧ xs.getD 0 0 ≤ 255 := hbx _ (by
    have h1 : 0 < xs.length := by omega
    simp [List.getD, h1])
  have hD : ∀ j, j ≤ xs.length → ∀ W o' c, Below w.heap.size w W → (o' = off + j ∨ xs.drop j = []) → Calls Try.prog 157 #[.slice (some ⟨b, o', none⟩) (xs.drop j).length c] W (Makes 2 W (xs.drop j)) := by
    intro j hj W o' c hB ho
    refine l01Own_any _ c _ W ?_ (by rw [List.length_drop]; omega)
    rcases ho with rfl | he
    · have h1 := rd_partB (hr.rest (a := j) hj)
      rw [List.length_drop]
      exact h1.below hB
    · rw [he]; exact rd_empty
  have hne := hasState_ne (head_ok hh)
  rcases hx : hasState (xs.getD 0 0 / 64) with _ | _ <;> rw [hx] at hne
  · rcases hy : hasData (xs.getD 0 0 / 64) with _ | _
    · rw [rf_00 hx hy (by omega)]
      obtain ⟨n, hn⟩ : ∃ n, xs.length = n + 1 := ⟨xs.length - 1, by omega⟩
      obtain ⟨e, rfl⟩ : ∃ e, cap = e + 1 := ⟨cap - 1, by omega⟩
      have hr' := hr
      rw [hn]
      by_cases he : e = 0
      · subst he; exact sp00_1 b off 0 n w _ _ _ 0 0 0 0 0 [] [] hlt hc (by omega) (by omega) hh rfl rfl hne hy xs hn hr' hbl
      · exact sp00_0 b off e n w _ _ _ 0 0 0 0 0 [] [] hlt hc (by omega) hcap2 hh rfl rfl hne hy he xs hn hr' hbl
    · by_cases h1 : xs.length = 1
      · rw [rf_01n hx hy h1, h1]
        obtain ⟨e, rfl⟩ : ∃ e, cap = e + 1 := ⟨cap - 1, by omega⟩
        by_cases he : e = 0
        · subst he; exact sp01n_1 b off 0 0 w _ _ _ 0 0 0 0 0 [] [] hlt hc (by omega) (by omega) hh rfl rfl hne hy
        · exact sp01n_0 b off e 0 w _ _ _ 0 0 0 0 0 [] [] hlt hc (by omega) hcap2 hh rfl rfl hne hy he
      · rw [rf_01 hx hy (by omega)]
        have hd := hD 2 (by omega)
        have hn : xs.length = (xs.drop 2).length + 2 := by rw [List.length_drop]; omega
        have hdl : (xs.drop 2).length ≤ 1024 := by rw [List.length_drop]; omega
        generalize xs.drop 2 = d at hd hn hdl ⊢
        obtain ⟨e, rfl⟩ : ∃ e, cap = e + 1 := ⟨cap - 1, by omega⟩
        have hr' := hr
        rw [hn]
        by_cases he : e = 1
        · subst he; exact sp01_1 b off 0 0 w _ _ _ 0 0 0 0 0 d [] hlt hc (by omega) (by omega) hh rfl rfl hne hy hdl xs hn hr' hbl hd
        · exact sp01_0 b off e 0 w _ _ _ 0 0 0 0 0 d [] hlt hc (by omega) hcap2 hh rfl rfl hne hy he hdl xs hn hr' hbl hd
  · by_cases h9 : xs.length < 9
    · rw [rf_short h0 hx h9]
      obtain ⟨n, hn⟩ : ∃ n, xs.length = n + 1 := ⟨xs.length - 1, by omega⟩
      obtain ⟨e, rfl⟩ : ∃ e, cap = e + 1 := ⟨cap - 1, by omega⟩
      rw [hn]
      rcases hy : hasData (xs.getD 0 0 / 64) with _ | _
      · by_cases he : e = 0
        · subst he; exact spS0_1 b off 0 n w _ _ _ 0 0 0 0 0 [] [] hlt hc (by omega) (by omega) hh rfl rfl hne hy (by omega)
        · exact spS0_0 b off e n w _ _ _ 0 0 0 0 0 [] [] hlt hc (by omega) hcap2 hh rfl rfl hne hy he (by omega)
      · by_cases he : e = 0
        · subst he; exact spS1_1 b off 0 n w _ _ _ 0 0 0 0 0 [] [] hlt hc (by omega) (by omega) hh rfl rfl hne hy (by omega)
        · exact spS1_0 b off e n w _ _ _ 0 0 0 0 0 [] [] hlt hc (by omega) hcap2 hh rfl rfl hne hy he (by omega)
    · have hl8 : ((xs.drop 1).take 8).length = 8 := by rw [List.length_take, List.length_drop]; omega
      have hsb : ∀ W c, Below w.heap.size w W → Calls Try.prog 127 #[.slice (some ⟨b, off + 1, none⟩) 8 c] W (Makes 2 W (bitsOf8 ((xs.drop 1).take 8))) := fun W c hB => by
        have h1 := l01Bits_any (some ⟨b, off + 1, none⟩) c ((xs.drop 1).take 8) W (by rw [hl8]; exact (rd_partB (hr.slice (a := 1) (k := 8) (by omega))).below hB) (by omega)
        rw [hl8] at h1
        exact h1
      have hbs : (bitsOf8 ((xs.drop 1).take 8)).length = 64 := by rw [bits8_len, hl8]
      have hss : ∀ W p c, Rd W p 64 (bitsOf8 ((xs.drop 1).take 8)) → Calls Try.prog 156 #[.slice p 64 c] W (GivesState W (numIn (bitsOf8 ((xs.drop 1).take 8)) 0 16) (numIn (bitsOf8 ((xs.drop 1).take 8)) 16 4) (numIn (bitsOf8 ((xs.drop 1).take 8)) 20 4) (numIn (bitsOf8 ((xs.drop 1).take 8)) 24 8) (numIn (bitsOf8 ((xs.drop 1).take 8)) 32 32)) :=
        fun W p c hR => l04State_any p c _ W hR (flat_bits8 _)
      obtain ⟨e, rfl⟩ : ∃ e, cap = e + 9 := ⟨cap - 9, by omega⟩
      rcases hy : hasData (xs.getD 0 0 / 64) with _ | _
      · rw [rf_10 hx hy (by omega)]
        obtain ⟨n, hn⟩ : ∃ n, xs.length = n + 9 := ⟨xs.length - 9, by omega⟩
        have hr' := hr
        rw [hn]
        by_cases he : e = 0
        · subst he; exact sp10_1 b off 0 n w _ _ _ _ _ _ _ _ [] _ hlt hc (by omega) (by omega) hh rfl rfl hne hy xs hn hr' hbl hsb hbs hss
        · exact sp10_0 b off e n w _ _ _ _ _ _ _ _ [] _ hlt hc (by omega) hcap2 hh rfl rfl hne hy he xs hn hr' hbl hsb hbs hss
      · by_cases h1 : xs.length = 9
        · rw [rf_11n hx hy h1, h1]
          by_cases he : e = 0
          · subst he; exact sp11n_1 b off 0 0 w _ _ _ _ _ _ _ _ [] _ hlt hc (by omega) (by omega) hh rfl rfl hne hy hsb hbs hss
          · exact sp11n_0 b off e 0 w _ _ _ _ _ _ _ _ [] _ hlt hc (by omega) hcap2 hh rfl rfl hne hy he hsb hbs hss
        · rw [rf_11 hx hy (by omega)]
          have hd := hD 10 (by omega)
          have hn : xs.length = (xs.drop 10).length + 10 := by rw [List.length_drop]; omega
          have hdl : (xs.drop 10).length ≤ 1024 := by rw [List.length_drop]; omega
          generalize xs.drop 10 = d at hd hn hdl ⊢
          have hr' := hr
          rw [hn]
          by_cases he : e = 1
          · subst he; exact sp11_1 b off 0 0 w _ _ _ _ _ _ _ _ d _ hlt hc (by omega) (by omega) hh rfl rfl hne hy hdl xs hn hr' hbl hsb hbs hss hd
          · exact sp11_0 b off e 0 w _ _ _ _ _ _ _ _ d _ hlt hc (by omega) hcap2 hh rfl rfl hne hy he hdl xs hn hr' hbl hsb hbs hss hd

end Go.Proofs.Ytbdfnkhmnglpbaa
