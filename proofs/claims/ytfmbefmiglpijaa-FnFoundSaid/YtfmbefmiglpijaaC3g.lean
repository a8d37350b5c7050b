/-
  Chapter 3: the specification's search for the first missed error.
-/
import Derived.Test.YtfmbefmiglpijaaC3f
namespace Go.Proofs.Ytfmbefmiglpijaa
open Go.RowKit

theorem own_two {E base : Nat} {w : World} (hb : base ≤ w.heap.size) (a b : Int) : Own E (w.alloc (.cells #[.int .i64 a, .int .i64 b] E)) base (.slice (some ⟨w.heap.size, 0, none⟩) 2 2) [a, b] :=
  ⟨rfl, .inr ⟨w.heap.size, 2, _, rfl, hb, heap_alloc_new w _, by simp, by unfold maxLen; omega, rfl, rfl⟩⟩
theorem own_three {E base : Nat} {w : World} (hb : base ≤ w.heap.size) (a b c : Int) : Own E (w.alloc (.cells #[.int .i64 a, .int .i64 b, .int .i64 c] E)) base (.slice (some ⟨w.heap.size, 0, none⟩) 3 3) [a, b, c] :=
  ⟨rfl, .inr ⟨w.heap.size, 3, _, rfl, hb, heap_alloc_new w _, by simp, by unfold maxLen; omega, rfl, rfl⟩⟩
theorem synd_pos {W : Nat} {g : BitVec W} (hg : g.getLsbD 0 = true) (n i : Nat) : (((synd g n i).toNat : Int) == 0) = false := by
  have h := synd_ne hg n i
  have h2 : (synd g n i).toNat ≠ 0 := fun e => h (BitVec.eq_of_toNat_eq (by rw [e]; simp))
  simpa using h2

set_option maxRecDepth 100000 in
set_option maxHeartbeats 1000000 in
/-- spec.l03First. -/
theorem sFirst_any (W n : Nat) (g : BitVec W) (w : World) (h1 : 3 ≤ W) (h2 : W ≤ 24) (hg : g.getLsbD 0 = true) (hn : n ≤ 64) :
    Calls Try.prog 62 #[.agg #[.int .i64 W, .int .i64 g.toNat], .int .i64 n] w (Makes 2 w (firstMissed g n)) := by
  have hb0 : Below w.heap.size w (w.alloc (.cells #[.int .i64 W, .int .i64 g.toNat] 25)) := (Below.refl _ _).alloc (Nat.le_refl _) _
  have HB := Lib.hid hb0; clear hb0
  have HG := Lib.hid hg; clear hg
  obtain ⟨R, hR⟩ : ∃ R, R = firstMissed g n := ⟨_, rfl⟩
  rw [← hR]
  have HR := Lib.hid hR; clear hR
  go_enter Try.func62, Try.ntmps62
  go_wp2_with fail
  refine (sSyndromes_any W n g _ h1 h2 hn).mono ?_
  rintro e w1 m1
  obtain ⟨p1, c1, rfl, o1, r1, b1⟩ := m1.get
  have hll := syndAll_len (g := g) n
  rw [hll] at r1 ⊢
  have hcells : ∀ i, i < n → ∃ b off, p1 = some ⟨b, off, none⟩ ∧ w1.cell? ⟨b, off + i, none⟩ = some (.int .i64 (synd g n i).toNat) := fun i hi => by
    obtain ⟨b, off, e, hc⟩ := r1.here (by omega)
    exact ⟨b, off, e, by rw [hc i hi, syndAll_getD n i hi]⟩
  have HCE := Lib.hid hcells; clear hcells
  have HB1 := Lib.hid (below_two HB.out b1)
  clear b1 o1 r1 m1 hll
  go_wp2
  go_loop [6] (fun i => ∃ k : Nat, k ≤ n ∧ i = .int .i64 k) (fun i => n - (intOf i).toNat)
  case atStart => exact ⟨0, Nat.zero_le _, rfl⟩
  case round =>
    obtain ⟨k, hk, rfl⟩ := hrel
    by_cases hlt : k < n
    · obtain ⟨b, off, rfl, hck⟩ := HCE.out k hlt
      have hp := synd_pos HG.out n k
      obtain ⟨x, hx⟩ : ∃ x, x = ((synd g n k).toNat : Int) := ⟨_, rfl⟩
      rw [← hx] at hck hp
      clear hx
      go_wp2
      go_round
      case rel => exact ⟨k + 1, by omega, by go_num⟩
      case measure => simp [intOf]; omega
    · have hkn : n = k := by omega
      subst hkn
      clear hlt
      go_wp2
      go_loopw [7] (fun i wr => ∃ (k q : Nat), k ≤ n ∧ i = .int .i64 k ∧ wr = w1.drewN q ∧ Hid (NoPair g n k (k + 1))) (fun i _ => n - (intOf i).toNat)
      case atStart => exact ⟨0, 0, Nat.zero_le _, rfl, rfl, noPair_zero n⟩
      case round =>
        obtain ⟨k, q, hk, rfl, rfl, HN⟩ := hrel
        by_cases hlt : k < n
        · obtain ⟨b, off, hp1, hck⟩ := HCE.out k hlt
          have HCK := Lib.hid hck; clear hck
          go_wp2
          go_loopw [8] (fun i wr => ∃ (j q : Nat), k < j ∧ j ≤ n ∧ i = .int .i64 j ∧ wr = w1.drewN q ∧ Hid (NoPair g n k j)) (fun i _ => n - (intOf i).toNat)
          case atStart => exact ⟨k + 1, q, by omega, by omega, by go_num, rfl, HN⟩
          case round =>
            clear HN
            obtain ⟨j, q', hj1, hj2, rfl, rfl, HN⟩ := hrel
            by_cases hlt2 : j < n
            · obtain ⟨b', off', e', hck2⟩ := HCE.out j hlt2
              have hck := HCK.out
              obtain ⟨X, hX⟩ : ∃ X, X = synd g n k := ⟨_, rfl⟩
              obtain ⟨Y, hY⟩ : ∃ Y, Y = synd g n j := ⟨_, rfl⟩
              rw [← hX] at hck
              rw [← hY] at hck2
              have ht := nat_beq X Y
              subst hp1
              cases e'
              have hnj : (j : Int) < (n : Int) := by omega
              have hnk : (k : Int) < (n : Int) := by omega
              by_cases he : X = Y
              · rw [decide_eq_true he] at ht
                have hfin : R = [(k : Int), (j : Int)] := by rw [HR.out]; exact first_pair HG.out (pair_some hj1 hlt2 HN.out (by rw [← hX, ← hY]; exact he))
                have HF := Lib.hid hfin; clear hfin he hX hY
                go_wp2
                go_quiet (fail)
                go_wp2
                go_ret
                exact ⟨_, rfl, by rw [HF.out]; exact own_two (by exact HB1.out.size) _ _, (below_drewN' HB1.out _).alloc (by exact HB1.out.size) _⟩
              · rw [decide_eq_false he] at ht
                have hfin : NoPair g n k (j + 1) := noPair_succ HN.out (by rw [← hX, ← hY]; exact he)
                have HF := Lib.hid hfin; clear hfin he hX hY
                go_wp2
                go_quiet (fail)
                go_wp2
                go_roundw
                case rel => exact ⟨j + 1, _, by omega, by omega, by go_num, rfl, HF⟩
                case measure => simp [intOf]; omega
            · have hjn : n = j := by omega
              subst hjn
              have HN2 := Lib.hid (noPair_row HN.out)
              go_wp2
              go_roundw
              case rel => exact ⟨k + 1, _, by omega, by go_num, rfl, HN2⟩
              case measure => simp [intOf]; omega
        · have hkn : n = k := by omega
          subst hkn
          clear hlt
          have HP := Lib.hid (pair_none HN.out)
          clear HN
          go_wp2
          go_loopw [9] (fun i wr => ∃ (k q : Nat), k ≤ n ∧ i = .int .i64 k ∧ wr = w1.drewN q ∧ Hid (NoThree g n k (k + 1))) (fun i _ => n - (intOf i).toNat)
          case atStart => exact ⟨0, q, Nat.zero_le _, rfl, rfl, noThree_zero n⟩
          case round =>
            obtain ⟨k, q, hk, rfl, rfl, HN⟩ := hrel
            by_cases hlt : k < n
            · obtain ⟨b, off, hp1, hck⟩ := HCE.out k hlt
              have HCK := Lib.hid hck; clear hck
              go_wp2
              go_loopw [10] (fun i wr => ∃ (j q : Nat), k < j ∧ j ≤ n ∧ i = .int .i64 j ∧ wr = w1.drewN q ∧ Hid (NoThree g n k j)) (fun i _ => n - (intOf i).toNat)
              case atStart => exact ⟨k + 1, q, by omega, by omega, by go_num, rfl, HN⟩
              case round =>
                clear HN
                obtain ⟨j, q', hj1, hj2, rfl, rfl, HN⟩ := hrel
                by_cases hlt2 : j < n
                · obtain ⟨b', off', e', hck2⟩ := HCE.out j hlt2
                  have HCK2 := Lib.hid hck2; clear hck2
                  subst hp1
                  cases e'
                  go_wp2
                  go_loopw [11] (fun i wr => ∃ (l q : Nat), j < l ∧ l ≤ n ∧ i = .int .i64 l ∧ wr = w1.drewN q ∧ Hid (∀ c, j < c → c < l → synd g n k ^^^ synd g n j ≠ synd g n c)) (fun i _ => n - (intOf i).toNat)
                  case atStart => exact ⟨j + 1, q', by omega, by omega, by go_num, rfl, fun c h3 h4 => absurd h3 (by omega)⟩
                  case round =>
                    obtain ⟨l, q'', hl1, hl2, rfl, rfl, HM⟩ := hrel
                    by_cases hlt3 : l < n
                    · obtain ⟨b'', off'', e'', hck3⟩ := HCE.out l hlt3
                      have hck := HCK.out
                      have hck2 := HCK2.out
                      cases e''
                      obtain ⟨X, hX⟩ : ∃ X, X = synd g n k := ⟨_, rfl⟩
                      obtain ⟨Y, hY⟩ : ∃ Y, Y = synd g n j := ⟨_, rfl⟩
                      obtain ⟨Z, hZ⟩ : ∃ Z, Z = synd g n l := ⟨_, rfl⟩
                      rw [← hX] at hck
                      rw [← hY] at hck2
                      rw [← hZ] at hck3
                      have ht := nat_beq (X ^^^ Y) Z
                      rw [← reg_xor h2] at ht
                      have hnj : (j : Int) < (n : Int) := by omega
                      have hnk : (k : Int) < (n : Int) := by omega
                      have hnl : (l : Int) < (n : Int) := by omega
                      by_cases he : X ^^^ Y = Z
                      · rw [decide_eq_true he] at ht
                        have hfin : R = [(k : Int), (j : Int), (l : Int)] := by rw [HR.out]; exact first_three HG.out HP.out (three_some hj1 hl1 hlt3 HN.out HM.out (by rw [← hX, ← hY, ← hZ]; exact he))
                        have HF := Lib.hid hfin; clear hfin he hX hY hZ
                        go_wp2
                        go_quiet (fail)
                        go_wp2
                        go_ret
                        exact ⟨_, rfl, by rw [HF.out]; exact own_three (by exact HB1.out.size) _ _ _, (below_drewN' HB1.out _).alloc (by exact HB1.out.size) _⟩
                      · rw [decide_eq_false he] at ht
                        have hfin : ∀ c, j < c → c < l + 1 → synd g n k ^^^ synd g n j ≠ synd g n c := fun c h3 h4 => by
                          by_cases e : c = l
                          · rw [e, ← hX, ← hY, ← hZ]; exact he
                          · exact HM.out c h3 (by omega)
                        have HF := Lib.hid hfin; clear hfin he hX hY hZ
                        go_wp2
                        go_quiet (fail)
                        go_wp2
                        go_roundw
                        case rel => exact ⟨l + 1, _, by omega, by omega, by go_num, rfl, HF⟩
                        case measure => simp [intOf]; omega
                    · have hln : n = l := by omega
                      subst hln
                      have HN2 := Lib.hid (noThree_succ HN.out HM.out)
                      go_wp2
                      go_roundw
                      case rel => exact ⟨j + 1, _, by omega, by omega, by go_num, rfl, HN2⟩
                      case measure => simp [intOf]; omega
                · have hjn : n = j := by omega
                  subst hjn
                  have HN2 := Lib.hid (noThree_row HN.out)
                  go_wp2
                  go_roundw
                  case rel => exact ⟨k + 1, _, by omega, by go_num, rfl, HN2⟩
                  case measure => simp [intOf]; omega
            · have hkn : n = k := by omega
              subst hkn
              have hfin : R = [] := by rw [HR.out]; exact first_nil HG.out HP.out (three_none HN.out)
              have HF := Lib.hid hfin; clear hfin
              go_wp2
              go_ret
              exact ⟨_, rfl, by rw [HF.out]; exact Own.nil_, below_drewN' HB1.out _⟩
end Go.Proofs.Ytfmbefmiglpijaa
