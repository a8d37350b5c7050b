/-
  Chapter 6: readBody as a whole.
-/
import Derived.Test.YtnblbemkpojjdaaGC
namespace Go.Proofs.Ytnblbemkpojjdaa
open Go.RowKit

theorem rd_part {w : World} {b off f l : Nat} {ys : List Int} (h : Rd w (Option.map (fun x => x.add f) (some (⟨b, off, none⟩ : Addr))) l ys) : Rd w (some ⟨b, off + f, none⟩) l ys := by simpa [Addr.add_lit] using h
theorem rd_empty {w : World} {ao : Option Addr} : Rd w ao 0 [] := ⟨rfl, fun h => absurd h (by omega)⟩
theorem readBody_nil (ao : Option Addr) (cap : Nat) (w : World) : Calls Try.prog 53 #[.slice ao 0 cap] w (GivesFB w Fr.zero (.bool false)) := by
  go_enter Try.func53, Try.ntmps53
  go_wp2_with fail
  exact bodyPost_ret (v := .tuple #[.agg #[.int .i64 0, .int .i64 0, .int .i64 0, .int .i64 0, .int .i64 0, .int .i64 0, .int .i64 0, .slice none 0 0], .bool false]) (by simp [results, Try.results53, go_sem]) rfl ⟨_, _, rfl, Own.nil_, (Below.refl _ _).alloc (Nat.le_refl _) _⟩
theorem rf_nil {xs : List Int} (h : xs.length = 0) : readFrame xs = none := by unfold readFrame; rw [if_pos h]
theorem rf_short {xs : List Int} (h0 : xs.length ≠ 0) (hx : hasState (xs.getD 0 0 / 64) = true) (h : xs.length < 9) : readFrame xs = none := by unfold readFrame; rw [if_neg h0, if_pos hx, if_pos h]
theorem rf_11n {xs : List Int} (hx : hasState (xs.getD 0 0 / 64) = true) (hy : hasData (xs.getD 0 0 / 64) = true) (h : xs.length = 9) : readFrame xs = none := by unfold readFrame; rw [if_neg (by omega), if_pos hx, if_neg (by omega), if_pos hy, if_pos (by omega)]
theorem rf_11 {xs : List Int} (hx : hasState (xs.getD 0 0 / 64) = true) (hy : hasData (xs.getD 0 0 / 64) = true) (h : 10 ≤ xs.length) : readFrame xs = some ⟨xs.getD 0 0 / 64, xs.getD 0 0 / 8 % 8, numIn (bitsOf8 ((xs.drop 1).take 8)) 0 16, numIn (bitsOf8 ((xs.drop 1).take 8)) 16 4, numIn (bitsOf8 ((xs.drop 1).take 8)) 20 4, numIn (bitsOf8 ((xs.drop 1).take 8)) 24 8, numIn (bitsOf8 ((xs.drop 1).take 8)) 32 32, xs.drop 10⟩ := by
  unfold readFrame; rw [if_neg (by omega), if_pos hx, if_neg (by omega), if_pos hy, if_neg (by omega)]
theorem rf_10 {xs : List Int} (hx : hasState (xs.getD 0 0 / 64) = true) (hy : hasData (xs.getD 0 0 / 64) = false) (h : 9 ≤ xs.length) : readFrame xs = some ⟨xs.getD 0 0 / 64, xs.getD 0 0 / 8 % 8, numIn (bitsOf8 ((xs.drop 1).take 8)) 0 16, numIn (bitsOf8 ((xs.drop 1).take 8)) 16 4, numIn (bitsOf8 ((xs.drop 1).take 8)) 20 4, numIn (bitsOf8 ((xs.drop 1).take 8)) 24 8, numIn (bitsOf8 ((xs.drop 1).take 8)) 32 32, []⟩ := by
  unfold readFrame; rw [if_neg (by omega), if_pos hx, if_neg (by omega), if_neg (by rw [hy]; simp)]
theorem rf_01n {xs : List Int} (hx : hasState (xs.getD 0 0 / 64) = false) (hy : hasData (xs.getD 0 0 / 64) = true) (h : xs.length = 1) : readFrame xs = none := by unfold readFrame; rw [if_neg (by omega), if_neg (by rw [hx]; simp), if_pos hy, if_pos (by omega)]
theorem rf_01 {xs : List Int} (hx : hasState (xs.getD 0 0 / 64) = false) (hy : hasData (xs.getD 0 0 / 64) = true) (h : 2 ≤ xs.length) : readFrame xs = some ⟨xs.getD 0 0 / 64, xs.getD 0 0 / 8 % 8, 0, 0, 0, 0, 0, xs.drop 2⟩ := by
  unfold readFrame; rw [if_neg (by omega), if_neg (by rw [hx]; simp), if_pos hy, if_neg (by omega)]
theorem rf_00 {xs : List Int} (hx : hasState (xs.getD 0 0 / 64) = false) (hy : hasData (xs.getD 0 0 / 64) = false) (h : 1 ≤ xs.length) : readFrame xs = some ⟨xs.getD 0 0 / 64, xs.getD 0 0 / 8 % 8, 0, 0, 0, 0, 0, []⟩ := by
  unfold readFrame; rw [if_neg (by omega), if_neg (by rw [hx]; simp), if_neg (by rw [hy]; simp)]
theorem readBody_any (ao : Option Addr) (cap : Nat) (xs : List Int) (w : World) (hr : Rd w ao xs.length xs) (hb : isBytes xs = true) (hcap : xs.length ≤ cap) (hcap2 : cap ≤ 9223372036854775807) :
    Calls Try.prog 53 #[.slice ao xs.length cap] w (GivesOpt w (readFrame xs)) := by
  obtain ⟨hbl, hbx⟩ := isBytes_iff.1 hb
  by_cases h0 : xs.length = 0
  · rw [rf_nil h0, h0]
    exact readBody_nil ao cap w
  obtain ⟨b, off, rfl, hat⟩ := hr.here (by omega)
  obtain ⟨b', off', e', hlt⟩ := hr.block (by omega)
  cases e'
  have hc : w.cell? ⟨b, off, none⟩ = some (.int .i64 (xs.getD 0 0)) := hat 0 (by omega)
  have hD : ∀ j, j ≤ xs.length → ∀ W o', Below w.heap.size w W → (o' = off + j ∨ xs.drop j = []) → Rd W (some ⟨b, o', none⟩) (xs.drop j).length (xs.drop j) := by
    intro j hj W o' hB ho
    rcases ho with rfl | he
    · have h1 := rd_part (hr.rest (a := j) hj)
      rw [List.length_drop]
      exact h1.below hB
    · rw [he]; exact rd_empty
  rcases hx : hasState (xs.getD 0 0 / 64) with _ | _
  · rcases hy : hasData (xs.getD 0 0 / 64) with _ | _
    · rw [rf_00 hx hy (by omega)]
      obtain ⟨n, hn⟩ : ∃ n, xs.length = n + 1 := ⟨xs.length - 1, by omega⟩
      obtain ⟨e, rfl⟩ : ∃ e, cap = e + 1 := ⟨cap - 1, by omega⟩
      rw [hn]
      by_cases he : e = 0
      · subst he; exact rd00_1 b off 0 n w _ _ _ 0 0 0 0 0 [] hlt hc (by omega) (by omega) rfl rfl hx hy
      · exact rd00_0 b off e n w _ _ _ 0 0 0 0 0 [] hlt hc (by omega) hcap2 rfl rfl hx hy he
    · by_cases h1 : xs.length = 1
      · rw [rf_01n hx hy h1, h1]
        obtain ⟨e, rfl⟩ : ∃ e, cap = e + 1 := ⟨cap - 1, by omega⟩
        by_cases he : e = 0
        · subst he; exact rd01n_1 b off 0 0 w _ _ _ 0 0 0 0 0 [] hlt hc (by omega) (by omega) rfl rfl hx hy
        · exact rd01n_0 b off e 0 w _ _ _ 0 0 0 0 0 [] hlt hc (by omega) hcap2 rfl rfl hx hy he
      · rw [rf_01 hx hy (by omega)]
        have hd := hD 2 (by omega)
        have hn : xs.length = (xs.drop 2).length + 2 := by rw [List.length_drop]; omega
        have hdl : (xs.drop 2).length ≤ 1024 := by rw [List.length_drop]; omega
        generalize xs.drop 2 = d at hd hn hdl ⊢
        obtain ⟨e, rfl⟩ : ∃ e, cap = e + 1 := ⟨cap - 1, by omega⟩
        rw [hn]
        by_cases he : e = 1
        · subst he; exact rd01_1 b off 0 0 w _ _ _ 0 0 0 0 0 d hlt hc (by omega) (by omega) rfl rfl hx hy hdl hd
        · exact rd01_0 b off e 0 w _ _ _ 0 0 0 0 0 d hlt hc (by omega) hcap2 rfl rfl hx hy he hdl hd
  · by_cases h9 : xs.length < 9
    · rw [rf_short h0 hx h9]
      obtain ⟨n, hn⟩ : ∃ n, xs.length = n + 1 := ⟨xs.length - 1, by omega⟩
      obtain ⟨e, rfl⟩ : ∃ e, cap = e + 1 := ⟨cap - 1, by omega⟩
      rw [hn]
      rcases hy : hasData (xs.getD 0 0 / 64) with _ | _
      · by_cases he : e = 0
        · subst he; exact rdS0_1 b off 0 n w _ _ _ 0 0 0 0 0 [] hlt hc (by omega) (by omega) rfl rfl hx hy (by omega)
        · exact rdS0_0 b off e n w _ _ _ 0 0 0 0 0 [] hlt hc (by omega) hcap2 rfl rfl hx hy he (by omega)
      · by_cases he : e = 0
        · subst he; exact rdS1_1 b off 0 n w _ _ _ 0 0 0 0 0 [] hlt hc (by omega) (by omega) rfl rfl hx hy (by omega)
        · exact rdS1_0 b off e n w _ _ _ 0 0 0 0 0 [] hlt hc (by omega) hcap2 rfl rfl hx hy he (by omega)
    · have hst : ∀ W c, Below w.heap.size w W → Calls Try.prog 75 #[.slice (some ⟨b, off + 1, none⟩) 8 c] W (GivesState W (numIn (bitsOf8 ((xs.drop 1).take 8)) 0 16) (numIn (bitsOf8 ((xs.drop 1).take 8)) 16 4) (numIn (bitsOf8 ((xs.drop 1).take 8)) 20 4) (numIn (bitsOf8 ((xs.drop 1).take 8)) 24 8) (numIn (bitsOf8 ((xs.drop 1).take 8)) 32 32)) :=
        fun W c hB => stateOfBytes_any _ c _ W ((rd_part (hr.slice (a := 1) (k := 8) (by omega))).below hB) (fun x hx => hbx x (List.mem_of_mem_drop (List.mem_of_mem_take hx)))
      obtain ⟨e, rfl⟩ : ∃ e, cap = e + 9 := ⟨cap - 9, by omega⟩
      rcases hy : hasData (xs.getD 0 0 / 64) with _ | _
      · rw [rf_10 hx hy (by omega)]
        obtain ⟨n, hn⟩ : ∃ n, xs.length = n + 9 := ⟨xs.length - 9, by omega⟩
        rw [hn]
        by_cases he : e = 0
        · subst he; exact rd10_1 b off 0 n w _ _ _ _ _ _ _ _ [] hlt hc (by omega) (by omega) rfl rfl hx hy hst
        · exact rd10_0 b off e n w _ _ _ _ _ _ _ _ [] hlt hc (by omega) hcap2 rfl rfl hx hy he hst
      · by_cases h1 : xs.length = 9
        · rw [rf_11n hx hy h1, h1]
          by_cases he : e = 0
          · subst he; exact rd11n_1 b off 0 0 w _ _ _ _ _ _ _ _ [] hlt hc (by omega) (by omega) rfl rfl hx hy hst
          · exact rd11n_0 b off e 0 w _ _ _ _ _ _ _ _ [] hlt hc (by omega) hcap2 rfl rfl hx hy he hst
        · rw [rf_11 hx hy (by omega)]
          have hd := hD 10 (by omega)
          have hn : xs.length = (xs.drop 10).length + 10 := by rw [List.length_drop]; omega
          have hdl : (xs.drop 10).length ≤ 1024 := by rw [List.length_drop]; omega
          generalize xs.drop 10 = d at hd hn hdl ⊢
          rw [hn]
          by_cases he : e = 1
          · subst he; exact rd11_1 b off 0 0 w _ _ _ _ _ _ _ _ d hlt hc (by omega) (by omega) rfl rfl hx hy hdl hst hd
          · exact rd11_0 b off e 0 w _ _ _ _ _ _ _ _ d hlt hc (by omega) hcap2 rfl rfl hx hy he hdl hst hd
end Go.Proofs.Ytnblbemkpojjdaa
