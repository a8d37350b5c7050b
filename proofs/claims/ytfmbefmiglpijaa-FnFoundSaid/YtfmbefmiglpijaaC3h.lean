/-
  Chapter 3: the program's search for the first missed error, by a map of the syndromes.
-/
import Derived.Test.YtfmbefmiglpijaaC3g
import Derived.Test.YtfmbefmiglpijaaMapI
import Derived.Maps.OwnOps
import Derived.Deep.QuietTactic
namespace Go.Proofs.Ytfmbefmiglpijaa
open Go.RowKit Go.Maps

theorem zero64 (w : World) : (zeroValue 2).run Try.prog w = .ok (.int .i64 0) w := by kernel_rfl
/-- The map of the program: syndromes to indices. -/
abbrev MapAt (w : World) (b n : Nat) (f : Int → Option Int) : Prop := MapIs Try.prog 2 2 w b n f

set_option maxRecDepth 100000 in
/-- impl.firstMissedTriple. -/
theorem triple_any (W n : Nat) (g : BitVec W) (ao : Option Addr) (cap B : Nat) (w : World) (h2 : W ≤ 24) (hn : n ≤ 64) (hr : Rd w ao n (syndAll g n)) (hm : MapAt w B n (idxOf g n n)) (ha : Apart g n n) :
    Calls Try.prog 80 #[.slice ao n cap, .map (some B)] w fun e w' => ∃ l, Makes 2 w l e w' ∧ ((find3 g n = none ∧ l = [] ∧ e = .returned (.slice none 0 0)) ∨ (find3 g n = some l ∧ l ≠ [])) := by
  have hll := syndAll_len (g := g) n
  have hcells : ∀ i, i < n → ∃ b off, ao = some ⟨b, off, none⟩ ∧ w.cell? ⟨b, off + i, none⟩ = some (.int .i64 (synd g n i).toNat) := fun i hi => by
    obtain ⟨b, off, e, hc⟩ := hr.here (by omega)
    exact ⟨b, off, e, by rw [hc i hi, syndAll_getD n i hi]⟩
  have HCE := Lib.hid hcells; clear hcells hr hll
  have HM := Lib.hid hm; clear hm
  have HA := Lib.hid ha; clear ha
  go_enter Try.func80, Try.ntmps80
  go_wp2
  go_step3
  go_wp2
  go_step3
  go_wp2
  go_loop [5, 13] (fun t i => ∃ k : Nat, t = .slice none 0 0 ∧ k ≤ n ∧ i = .int .i64 k ∧ Hid (NoThree g n k (k + 1))) (fun _ i => n - (intOf i).toNat)
  case atStart => exact ⟨0, rfl, Nat.zero_le _, rfl, noThree_zero n⟩
  case round =>
    obtain ⟨k, rfl, hk, rfl, HN⟩ := hrel
    by_cases hlt : k < n
    · obtain ⟨b, off, rfl, hck⟩ := HCE.out k hlt
      obtain ⟨X, hX⟩ : ∃ X, X = synd g n k := ⟨_, rfl⟩
      rw [← hX] at hck
      have HX := Lib.hid hX; clear hX
      go_wp2
      clear hck
      go_loop [5, 8] (fun t i => ∃ j : Nat, t = .slice none 0 0 ∧ k < j ∧ j ≤ n ∧ i = .int .i64 j ∧ Hid (NoThree g n k j)) (fun _ i => n - (intOf i).toNat)
      case atStart => exact ⟨k + 1, rfl, by omega, by omega, by go_num, HN⟩
      case round =>
        clear HN
        obtain ⟨j, rfl, hj1, hj2, rfl, HN⟩ := hrel
        by_cases hlt2 : j < n
        · obtain ⟨b', off', e', hck2⟩ := HCE.out j hlt2
          cases e'
          obtain ⟨Y, hY⟩ : ∃ Y, Y = synd g n j := ⟨_, rfl⟩
          rw [← hY] at hck2
          have HY := Lib.hid hY; clear hY
          have hxor := reg_xor h2 X Y
          have hrl := reg_lt h2 (X ^^^ Y)
          have hnj : (j : Int) < (n : Int) := by omega
          rcases hi : idxOf g n n ((X ^^^ Y).toNat : Int) with _ | l
          · have hfin : NoThree g n k (j + 1) := noThree_succ HN.out (no_third HA.out fun y hy => by rw [← HX.out, ← HY.out, hi] at hy; cases hy)
            have HF := Lib.hid hfin; clear hfin
            have HI := Lib.hid hi; clear hi
            obtain ⟨z, hz⟩ : ∃ z, z = ((X ^^^ Y).toNat : Int) := ⟨_, rfl⟩
            rw [← hz] at hxor hrl HI
            clear hz
            go_wp2_with (at_lookup; refine lookup_miss _ rfl _ _ rfl Try.underlying2 Try.underlying2 Try.underlying88 (zero64 _) B n _ rfl HM.out z rfl (by omega) HI.out ?_)
            go_round
            case rel => exact ⟨j + 1, rfl, by omega, by omega, by go_num, HF⟩
            case measure => simp [intOf]; omega
          · obtain ⟨m, hm, rfl, hs⟩ := idx_some hi
            have hm0 : (m : Int) ≤ 64 := by omega
            by_cases hmj : j < m
            · have hfin : find3 g n = some [(k : Int), (j : Int), (m : Int)] := third_some HA.out hj1 hmj hm HN.out (by rw [hs, ← HX.out, ← HY.out])
              have HF := Lib.hid hfin; clear hfin hs
              have HI := Lib.hid hi; clear hi
              obtain ⟨z, hz⟩ : ∃ z, z = ((X ^^^ Y).toNat : Int) := ⟨_, rfl⟩
              rw [← hz] at hxor hrl HI
              clear hz
              go_wp2_with (at_lookup; refine lookup_hit _ rfl _ _ rfl Try.underlying2 Try.underlying2 Try.underlying88 (zero64 _) B n _ rfl HM.out z _ rfl (by omega) HI.out ?_)
              go_ret
              exact ⟨_, ⟨_, rfl, own_three (Nat.le_refl _) _ _ _, (Below.refl _ _).alloc (Nat.le_refl _) _⟩, .inr ⟨HF.out, by simp⟩⟩
            · have hfin : NoThree g n k (j + 1) := noThree_succ HN.out (no_third HA.out fun y hy => by rw [← HX.out, ← HY.out, hi] at hy; cases hy; omega)
              have HF := Lib.hid hfin; clear hfin hs
              have HI := Lib.hid hi; clear hi
              obtain ⟨z, hz⟩ : ∃ z, z = ((X ^^^ Y).toNat : Int) := ⟨_, rfl⟩
              rw [← hz] at hxor hrl HI
              clear hz
              go_wp2_with (at_lookup; refine lookup_hit _ rfl _ _ rfl Try.underlying2 Try.underlying2 Try.underlying88 (zero64 _) B n _ rfl HM.out z _ rfl (by omega) HI.out ?_)
              go_round
              case rel => exact ⟨j + 1, rfl, by omega, by omega, by go_num, HF⟩
              case measure => simp [intOf]; omega
        · have hjn : n = j := by omega
          subst hjn
          have HN2 := Lib.hid (noThree_row HN.out)
          go_wp2
          go_round
          case rel => exact ⟨k + 1, rfl, by omega, by go_num, HN2⟩
          case measure => simp [intOf]; omega
    · have hkn : n = k := by omega
      subst hkn
      have HF := Lib.hid (three_none HN.out)
      go_wp2
      go_ret
      exact ⟨[], ⟨_, rfl, Own.nil_, Below.refl _ _⟩, .inl ⟨HF.out, rfl, rfl⟩⟩

/-- What the search leaves: the indices in a slice of the call's own; nil where there are none. -/
def Ones (E : Nat) (w : World) (l : List Int) (e : Ending) (w' : World) : Prop :=
  ∃ v, e = .returned v ∧ Own E w' w.heap.size v l ∧ Below w.heap.size w w' ∧ (l = [] → v = .slice none 0 0)
set_option maxRecDepth 100000 in
/-- impl.firstMissedOnes. -/
theorem ones_any (W n : Nat) (g : BitVec W) (w : World) (h1 : 3 ≤ W) (h2 : W ≤ 24) (hg : g.getLsbD 0 = true) (hn : n ≤ 64) :
    Calls Try.prog 60 #[.agg #[.int .i64 W, .int .i64 g.toNat], .int .i64 n] w (Ones 2 w (firstMissed g n)) := by
  have hb0 : Below w.heap.size w (w.alloc (.cells #[.int .i64 W, .int .i64 g.toNat] 25)) := (Below.refl _ _).alloc (Nat.le_refl _) _
  have HB := Lib.hid hb0; clear hb0
  have HG := Lib.hid hg; clear hg
  obtain ⟨R, hR⟩ : ∃ R, R = firstMissed g n := ⟨_, rfl⟩
  rw [← hR]
  have HR := Lib.hid hR; clear hR
  have hmm := fun w => run_makeMap_hint (P := Try.prog) Try.underlying88 .i64 (n : Int) w
  go_enter Try.func60, Try.ntmps60
  go_wp2_with fail
  refine (syndromes_any W n g _ h1 h2 hn).mono ?_
  rintro e w1 m1
  obtain ⟨p1, c1, rfl, o1, r1, b1⟩ := m1.get
  have hll := syndAll_len (g := g) n
  rw [hll] at r1 ⊢
  have hcells : ∀ i, i < n → ∃ b off, p1 = some ⟨b, off, none⟩ ∧ w1.cell? ⟨b, off + i, none⟩ = some (.int .i64 (synd g n i).toNat) := fun i hi => by
    obtain ⟨b, off, e, hc⟩ := r1.here (by omega)
    exact ⟨b, off, e, by rw [hc i hi, syndAll_getD n i hi]⟩
  have HCE := Lib.hid hcells; clear hcells
  have HR1 := Lib.hid r1
  have HB1 := Lib.hid (below_two HB.out b1)
  clear b1 o1 r1 m1 hll
  have hm0 : MapAt (w1.alloc (.map #[] 0)) w1.heap.size 0 (idxOf g n 0) := mapIs_made w1
  have HM0 := Lib.hid hm0; clear hm0
  go_wp2
  clear hmm
  go_loopw [18] (fun i wr => ∃ k : Nat, k ≤ n ∧ i = .int .i64 k ∧ MapAt wr w1.heap.size k (idxOf g n k) ∧ Below w1.heap.size w1 wr ∧ Hid (Apart g n k)) (fun i _ => n - (intOf i).toNat)
  case atStart => exact ⟨0, Nat.zero_le _, rfl, HM0.out, (Below.refl _ _).alloc (Nat.le_refl _) _, apart_zero n⟩
  case round =>
    clear HM0
    obtain ⟨k, hk, rfl, hm, hbel, HA⟩ := hrel
    have HBE := Lib.hid hbel; clear hbel
    have HM := Lib.hid hm; clear hm
    by_cases hlt : k < n
    · obtain ⟨b, off, rfl, hck0⟩ := HCE.out k hlt
      have hck := (HBE.out.cell (p := ⟨b, off + k, none⟩) (World.block_lt_of_cell? _ _ hck0)).trans hck0
      clear hck0
      have hrl := reg_lt h2 (synd g n k)
      rcases hi : idxOf g n k ((synd g n k).toNat : Int) with _ | m
      · have HA2 := Lib.hid (apart_of_idx HA.out hi)
        have HS := Lib.hid (idx_succ hi)
        have HI := Lib.hid hi; clear hi
        obtain ⟨z, hz⟩ : ∃ z, z = ((synd g n k).toNat : Int) := ⟨_, rfl⟩
        rw [← hz] at hck hrl HI HS
        clear hz
        go_wp2_with (first
          | (at_lookup; refine lookup_miss _ rfl _ _ rfl Try.underlying2 Try.underlying2 Try.underlying88 (zero64 _) w1.heap.size k _ rfl HM.out z rfl (by omega) HI.out ?_)
          | (at_mapUpdate; refine store_new _ rfl _ _ _ rfl Try.underlying2 Try.underlying2 Try.underlying88 w1.heap.size k _ rfl HM.out (by omega) z (k : Int) rfl rfl (by omega) (by omega) ?_; intro w5 hm5 hg5))
        have M5 := Lib.hid (hm5.same HS.out)
        have B5 := Lib.hid (HBE.out.grown hg5 HBE.out.size (fun j hj => by cases hj; exact Nat.le_refl _))
        clear hm5 hg5
        go_roundw
        case rel => exact ⟨k + 1, by omega, by go_num, M5.out, B5.out, HA2.out⟩
        case measure => simp [intOf]; omega
      · obtain ⟨j, hj, rfl, hs⟩ := idx_some hi
        have hfin : R = [(j : Int), (k : Int)] := by rw [HR.out]; exact first_pair HG.out (repeat_first HG.out hlt hj HA.out (nat_eq hs))
        have HF := Lib.hid hfin; clear hfin hs
        have HI := Lib.hid hi; clear hi
        obtain ⟨z, hz⟩ : ∃ z, z = ((synd g n k).toNat : Int) := ⟨_, rfl⟩
        rw [← hz] at hck hrl HI
        clear hz
        have hsz := (HB1.out.size)
        have hsz2 := HBE.out.size
        go_wp2_with (at_lookup; refine lookup_hit _ rfl _ _ rfl Try.underlying2 Try.underlying2 Try.underlying88 (zero64 _) w1.heap.size k _ rfl HM.out z _ rfl (by omega) HI.out ?_)
        go_ret
        exact ⟨_, rfl, by rw [HF.out]; exact own_two (by omega) _ _, (below_two HB1.out HBE.out).alloc (by omega) _, fun h => by rw [HF.out] at h; cases h⟩
    · have hkn : n = k := by omega
      subst hkn
      have h2n := repeat_none HA.out
      have H2N := Lib.hid h2n; clear h2n
      go_wp2_with fail
      refine (triple_any W n g _ _ _ _ h2 hn (HR1.out.below HBE.out) HM.out HA.out).mono ?_
      rintro e w6 ⟨l, m6, hl⟩
      obtain ⟨v6, rfl, o6, b6⟩ := m6
      have hfin : R = l ∧ (l = [] → v6 = .slice none 0 0) := by
        rcases hl with ⟨h3, rfl, he⟩ | ⟨h3, hne⟩
        · exact ⟨by rw [HR.out]; exact first_nil HG.out H2N.out h3, fun _ => by cases he; rfl⟩
        · exact ⟨by rw [HR.out]; exact first_three HG.out H2N.out h3, fun h => absurd h hne⟩
      have HF := Lib.hid hfin; clear hfin hl
      have B6 := Lib.hid (below_two (below_two HB1.out HBE.out) b6)
      have O6 := Lib.hid (o6.more (below_two HB1.out HBE.out).size)
      clear b6 o6
      go_wp2
      go_ret
      exact ⟨_, rfl, by rw [HF.out.1]; exact O6.out, B6.out, fun h => HF.out.2 (by rw [← HF.out.1]; exact h)⟩
end Go.Proofs.Ytfmbefmiglpijaa
