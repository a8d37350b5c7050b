/-
  The small functions of the laws and of chapter 1: what each call does.
  The functions of chapter 1 that append: impl.pushNumber, spec.l01Append, and what stands on them.
  spec.l01Append and spec.AppendNumber; impl.numberOf, spec.l01Number, NumberAt on both sides.
  BytesToBits and BitsToBytes, on both sides.
-/
import Derived.Test.YtbdfnkhmnglpbaaRows
import Derived.Test.YtbdfnkhmnglpbaaBase
import Derived.BigQuiet
import Derived.Laws.CopyOwn
namespace Go.Proofs.Ytbdfnkhmnglpbaa
section
open Go.RowKit

theorem info64 : (Try.prog.info? 2).map (fun i => (i.zero, i.size, i.bytes)) = some (some (.int .i64 0), 1, 8) := by kernel_rfl

/-- impl.isListWithin. -/
theorem isListWithin_any (ao : Option Addr) (n cap : Nat) (xs : List Int) (most hi : Int) (w : World) (hr : Rd w ao n xs) (hn : n ≤ 9223372036854775807) :
    Calls Try.prog 130 #[.slice ao n cap, .int .i64 most, .int .i64 hi] w fun e w' => e = .returned (.bool (within most hi xs)) ∧ w = w' := by
  obtain ⟨hlen, hat⟩ := hr
  by_cases hm : (n : Int) ≤ most
  · have HL := Lib.hid hlen; clear hlen
    have HA := Lib.hid hat; clear hat
    go_enter Try.func130, Try.ntmps130
    go_wp2
    go_loop [15] (fun i => ∃ k : Nat, k ≤ n ∧ i = .int .i64 k ∧ Hid (allIn hi (xs.take k) = true)) (fun i => n - (intOf i).toNat)
    case atStart => exact ⟨0, Nat.zero_le _, rfl, rfl⟩
    case round =>
      obtain ⟨k, hk, rfl, hall⟩ := hrel
      by_cases hlt : k < n
      · obtain ⟨b, off, rfl, hc⟩ := HA.out (by omega)
        have hck := hc k hlt
        clear hc HA
        have hkx : k < xs.length := by rw [HL.out]; exact hlt
        obtain ⟨x, hx⟩ : ∃ x, x = xs.getD k 0 := ⟨_, rfl⟩
        rw [← hx] at hck
        have HX := Lib.hid hx; clear hx
        have HK := Lib.hid hkx; clear hkx
        by_cases h0 : x < 0
        · go_wp2
          go_ret
          exact ⟨ret_bool (within_no (allIn_no HK.out (by rw [← HX.out]; exact inR_low h0))).symm, rfl⟩
        · by_cases h1 : hi < x
          · go_wp2
            go_ret
            exact ⟨ret_bool (within_no (allIn_no HK.out (by rw [← HX.out]; exact inR_high h1))).symm, rfl⟩
          · go_wp2
            go_round
            case rel => exact ⟨k + 1, by omega, by go_num, allIn_succ HK.out hall.out (by rw [← HX.out]; exact inR_true (by omega) (by omega))⟩
            case measure => simp [intOf]; omega
      · have hkn : k = n := by omega
        subst hkn
        go_wp2
        go_ret
        exact ⟨ret_bool (within_yes (by rw [HL.out]; exact hm) (by have := hall.out; rwa [List.take_of_length_le (by rw [HL.out]; exact Nat.le_refl _)] at this)).symm, rfl⟩
  · have hf : within most hi xs = false := within_long (by omega)
    rw [hf]
    clear hlen hat hf
    go_enter Try.func130, Try.ntmps130
    go_wp2
    go_ret
    exact ⟨rfl, rfl⟩

/-- spec.l01In. -/
theorem l01In_yes (x lo hi : Int) (w : World) (h0 : lo ≤ x) (h1 : x ≤ hi) : Calls Try.prog 107 #[.int .i64 x, .int .i64 lo, .int .i64 hi] w fun e w' => e = .returned (.bool true) ∧ w = w' := by
  go_enter Try.func107, Try.ntmps107
  go_wp2
  go_ret
  exact ⟨rfl, rfl⟩
theorem l01In_no (x lo hi : Int) (w : World) (h : x < lo ∨ hi < x) : Calls Try.prog 107 #[.int .i64 x, .int .i64 lo, .int .i64 hi] w fun e w' => e = .returned (.bool false) ∧ w = w' := by
  by_cases h0 : x < lo
  · go_enter Try.func107, Try.ntmps107
    go_wp2
    go_ret
    exact ⟨rfl, rfl⟩
  · have h1 : hi < x := by omega
    clear h
    go_enter Try.func107, Try.ntmps107
    go_wp2
    go_ret
    exact ⟨ret_bool (decide_eq_false (by omega)), rfl⟩

/-- laws.toInt64S: a copy in new memory. -/
theorem toInt_any (ao : Option Addr) (n cap : Nat) (xs : List Int) (w : World) (hr : Rd w ao n xs) (hn : n ≤ 1048576) :
    Calls Try.prog 61 #[.slice ao n cap] w (Makes 2 w xs) := by
  obtain ⟨i0, hi, hz0, hz1, hz2⟩ := info_parts info64
  obtain ⟨hlen, hat⟩ := hr
  have HL := Lib.hid hlen; clear hlen
  have HA := Lib.hid hat; clear hat
  go_enter Try.func61, Try.ntmps61
  go_wp2_with (at_make; refine wpList_make_full _ rfl _ _ 26 rfl w.heap.size 2 i0 (.int .i64 0) 1 Try.underlying26 hi hz0 hz1 _ _ _ _ n rfl rfl rfl rfl (by rw [hz2]; omega) (by unfold maxLen; omega) (Nat.le_refl _) ?_; intro w1 hown hgr)
  have hown1 : w1.ownsRow w.heap.size 2 1 (.slice (some ⟨w.heap.size, 0, none⟩) n n) n ((fillTo xs 0).map (Value.int .i64)) := by
    have e : (madeCells (Value.int .i64 0).cells (n * 1)).toList = (fillTo xs 0).map (Value.int .i64) := by
      rw [fillTo_zero, HL.out, Nat.mul_one, show (Value.int .i64 0).cells = #[Value.int .i64 0] from rfl, toList_madeCells_one, List.map_replicate]
    rw [← e]; exact hown
  have hb1 : Below w.heap.size w w1 := (Below.refl _ _).grown hgr (Nat.le_refl _) (fun k h => by cases h)
  clear hown hgr
  go_loopw [4] (fun i wr => ∃ k : Nat, k ≤ n ∧ i = .int .i64 k ∧ wr.ownsRow w.heap.size 2 1 (.slice (some ⟨w.heap.size, 0, none⟩) n n) n ((fillTo xs k).map (Value.int .i64)) ∧ Below w.heap.size w wr) (fun i _ => n - (intOf i).toNat)
  case atStart => exact ⟨0, Nat.zero_le _, rfl, hown1, hb1⟩
  case round =>
    clear hown1 hb1
    obtain ⟨k, hk, rfl, hown, hb⟩ := hrel
    by_cases hlt : k < n
    · have hkx : k < xs.length := by rw [HL.out]; exact hlt
      obtain ⟨b, off, rfl, hc⟩ := HA.out (by omega)
      have hck0 := hc k hlt
      have hblt : b < w.heap.size := World.block_lt_of_cell? w _ hck0
      have hck := (hb.cell (p := ⟨b, off + k, none⟩) hblt).trans hck0
      clear hc HA hck0
      have hdst : wr.cell? ⟨w.heap.size, k, none⟩ = some (.int .i64 ((fillTo xs k).getD k 0)) := by
        have hl : k < (fillTo xs k).length := by rw [fillTo_len xs k (by omega)]; exact hkx
        rw [World.ownsRow.cellAt hown k (by omega)]
        simp [List.getD, List.getElem?_eq_getElem hl]
      have hfz := World.ownsRow.frozenAt hown k
      obtain ⟨hst, hgr⟩ := World.ownsRow.stored hown k (.int .i64 (xs.getD k 0))
      rw [map_set, fillTo_succ xs k hkx] at hst
      have hb' : Below w.heap.size w (wr.setCell ⟨w.heap.size, k, none⟩ (.int .i64 (xs.getD k 0))) := hb.setCell (by exact Nat.le_refl _) _
      obtain ⟨x, hx⟩ : ∃ x, x = xs.getD k 0 := ⟨_, rfl⟩
      rw [← hx] at hck hst hb'
      obtain ⟨y, hy⟩ : ∃ y, y = (fillTo xs k).getD k 0 := ⟨_, rfl⟩
      rw [← hy] at hdst
      clear hx hy hgr hown hb hkx
      have HS := Lib.hid hst; clear hst
      have HB := Lib.hid hb'; clear hb'
      go_wp2
      go_roundw
      case rel => exact ⟨k + 1, by omega, by go_num, HS.out, HB.out⟩
      case measure => simp [intOf]; omega
    · have hkn : k = n := by omega
      subst hkn
      have HO := Lib.hid hown; clear hown
      go_wp2
      go_ret
      refine ⟨_, rfl, ?_, hb⟩
      have h := HO.out
      rw [← HL.out, fillTo_all] at h
      have hl := HL.out
      subst hl
      exact h

/-- laws.eqInt64S: whether two slices read as the same list. -/
theorem eq_any (ao bo : Option Addr) (n m c d : Nat) (xs ys : List Int) (w : World) (hx : Rd w ao n xs) (hy : Rd w bo m ys) (hn : n ≤ 9223372036854775807) (hm : m ≤ 9223372036854775807) :
    Calls Try.prog 56 #[.slice ao n c, .slice bo m d] w fun e w' => e = .returned (.bool (decide (xs = ys))) ∧ ∃ q, w' = w.drewN q := by
  obtain ⟨hxl, hxa⟩ := hx
  obtain ⟨hyl, hya⟩ := hy
  by_cases hnm : n = m
  · subst hnm
    have XL := Lib.hid hxl; clear hxl
    have XA := Lib.hid hxa; clear hxa
    have YL := Lib.hid hyl; clear hyl
    have YA := Lib.hid hya; clear hya
    have hne : ((n : Int) != (n : Int)) = false := by simp
    go_enter Try.func56, Try.ntmps56
    go_wp2
    clear hne
    go_loopw [5] (fun i wr => ∃ k : Nat, k ≤ n ∧ i = .int .i64 k ∧ Hid (xs.take k = ys.take k) ∧ ∃ q, wr = w.drewN q) (fun i _ => n - (intOf i).toNat)
    case atStart => exact ⟨0, Nat.zero_le _, rfl, rfl, 0, rfl⟩
    case round =>
      obtain ⟨k, hk, rfl, heq, q, rfl⟩ := hrel
      by_cases hlt : k < n
      · obtain ⟨b, off, rfl, hc⟩ := XA.out (by omega)
        obtain ⟨b', off', rfl, hc'⟩ := YA.out (by omega)
        have hck : w.cell? ⟨b, off + k, none⟩ = some (.int .i64 (xs.getD k 0)) := hc k hlt
        have hck' : w.cell? ⟨b', off' + k, none⟩ = some (.int .i64 (ys.getD k 0)) := hc' k hlt
        clear hc hc' XA YA
        obtain ⟨x, hx⟩ : ∃ x, x = xs.getD k 0 := ⟨_, rfl⟩
        obtain ⟨y, hy⟩ : ∃ y, y = ys.getD k 0 := ⟨_, rfl⟩
        rw [← hx] at hck
        rw [← hy] at hck'
        have HX := Lib.hid hx; clear hx
        have HY := Lib.hid hy; clear hy
        by_cases hxy : x = y
        · have hd : (x != y) = false := by simp [hxy]
          have HXY := Lib.hid hxy; clear hxy
          go_wp2
          go_quiet (fail)
          go_wp2
          go_roundw
          case rel => exact ⟨k + 1, by omega, by go_num, take_eq_succ (by rw [XL.out]; exact hlt) (by rw [YL.out]; exact hlt) heq.out (by rw [← HX.out, ← HY.out]; exact HXY.out), _, rfl⟩
          case measure => simp [intOf]; omega
        · have hd : (x != y) = true := by simp [hxy]
          have HXY := Lib.hid hxy; clear hxy
          go_wp2
          go_quiet (fail)
          go_wp2
          go_ret
          exact ⟨ret_bool (ne_of_getD (k := k) (by rw [← HX.out, ← HY.out]; exact HXY.out)).symm, _, World.drewN_drewN _ _ _⟩
      · have hkn : k = n := by omega
        subst hkn
        go_wp2
        go_ret
        exact ⟨ret_bool (decide_eq_true (list_eq_of_take XL.out YL.out heq.out)).symm, _, rfl⟩
  · have hne : ((n : Int) != (m : Int)) = true := by simp; omega
    have hf : decide (xs = ys) = false := ne_of_len (by rw [hxl, hyl]; exact hnm)
    rw [hf]
    clear hxl hyl hxa hya hf hnm
    go_enter Try.func56, Try.ntmps56
    go_wp2
    go_ret
    exact ⟨rfl, 0, rfl⟩
/-- laws.eqInt64S of two equal lists. -/
theorem eq_yes (ao bo : Option Addr) (n m c d : Nat) (xs : List Int) (w : World) (hx : Rd w ao n xs) (hy : Rd w bo m xs) (hn : n ≤ 9223372036854775807) :
    Calls Try.prog 56 #[.slice ao n c, .slice bo m d] w fun e w' => e = .returned (.bool true) ∧ Below w.heap.size w w' := by
  have hm : m ≤ 9223372036854775807 := by have := hx.len; have := hy.len; omega
  refine (eq_any ao bo n m c d xs xs w hx hy hn hm).mono ?_
  rintro e w' ⟨he, q, rfl⟩
  exact ⟨by rw [he]; simp, below_drewN' (Below.refl _ _) q⟩

/-- laws.markInt64S writes the numbers q, q + 1, .. into a slice of the call's own. -/
theorem mark_any (g n cap base : Nat) (xs : List Int) (q : Int) (w : World) (hl : xs.length = n) (ho : Own 2 w base (.slice (some ⟨g, 0, none⟩) n cap) xs) (hn : n ≤ 4294967296) (hq0 : 0 ≤ q) (hq1 : q ≤ 4294967296) :
    Calls Try.prog 59 #[.slice (some ⟨g, 0, none⟩) n cap, .int .i64 q] w fun e w' => e = .returned (.int .i64 (q + n)) ∧ Own 2 w' base (.slice (some ⟨g, 0, none⟩) n cap) (marks q n) ∧ w.grownBy w' (some g) := by
  have ho1 : w.ownsRow base 2 1 (.slice (some ⟨g, 0, none⟩) n cap) n ((markTo q xs 0).map (Value.int .i64)) := by
    rw [markTo_zero, ← hl]; unfold Own at ho; rw [← hl] at ho; exact ho
  have HL := Lib.hid hl; clear hl ho
  have HO1 := Lib.hid ho1; clear ho1
  go_enter Try.func59, Try.ntmps59
  go_wp2
  go_loopw [1, 5] (fun v i wr => ∃ k : Nat, k ≤ n ∧ i = .int .i64 k ∧ v = .int .i64 (q + k) ∧ wr.ownsRow base 2 1 (.slice (some ⟨g, 0, none⟩) n cap) n ((markTo q xs k).map (Value.int .i64)) ∧ w.grownBy wr (some g)) (fun _ i _ => n - (intOf i).toNat)
  case atStart => exact ⟨0, Nat.zero_le _, rfl, by simp, HO1.out, World.grownBy.refl _ _⟩
  case round =>
    obtain ⟨k, hk, rfl, rfl, hown, hgr⟩ := hrel
    by_cases hlt : k < n
    · have hkx : k < xs.length := by rw [HL.out]; exact hlt
      have hdst : wr.cell? ⟨g, k, none⟩ = some (.int .i64 ((markTo q xs k).getD k 0)) := by
        have hl : k < (markTo q xs k).length := by rw [markTo_len q xs k (by omega)]; exact hkx
        rw [World.ownsRow.cellAt hown k (by omega)]
        simp [List.getD, List.getElem?_eq_getElem hl]
      have hfz := World.ownsRow.frozenAt hown k
      obtain ⟨hst, hgr'⟩ := World.ownsRow.stored hown k (.int .i64 (q + k))
      rw [map_set, markTo_succ q xs k hkx] at hst
      have hg2 : w.grownBy (wr.setCell ⟨g, k, none⟩ (.int .i64 (q + k))) (some g) := grown_trans hgr hgr'
      obtain ⟨y, hy⟩ : ∃ y, y = (markTo q xs k).getD k 0 := ⟨_, rfl⟩
      rw [← hy] at hdst
      clear hy hgr hown hgr' hkx
      have HS := Lib.hid hst; clear hst
      have HB := Lib.hid hg2; clear hg2
      go_wp2
      go_roundw
      case rel => exact ⟨k + 1, by omega, by go_num, by go_num, HS.out, HB.out⟩
      case measure => simp [intOf]; omega
    · have hkn : k = n := by omega
      subst hkn
      have HO := Lib.hid hown; clear hown
      go_wp2
      go_ret
      refine ⟨rfl, ?_, hgr⟩
      have h := HO.out
      have hl := HL.out
      subst hl
      rw [markTo_all] at h
      unfold Own
      rw [marks_len]
      exact h
/-- laws.markInt64S on whatever slice of the call's own, a nil one too. -/
theorem mark_own (ao : Option Addr) (n cap base : Nat) (xs : List Int) (q : Int) (w : World) (hl : xs.length = n) (ho : Own 2 w base (.slice ao n cap) xs) (hn : n ≤ 4294967296) (hq0 : 0 ≤ q) (hq1 : q ≤ 4294967296) :
    Calls Try.prog 59 #[.slice ao n cap, .int .i64 q] w fun e w' => e = .returned (.int .i64 (q + n)) ∧ Own 2 w' base (.slice ao n cap) (marks q n) ∧ w.grownBy w' (Value.ownBlock (.slice ao n cap)) := by
  obtain ⟨ao', cap', e, -, -, -, hcase⟩ := ho.form
  rw [hl] at e
  cases e
  rcases hcase with hnil | ⟨g, rfl, -, -⟩
  · simp only [Value.slice.injEq] at hnil
    obtain ⟨rfl, rfl, rfl⟩ := hnil
    clear ho
    go_enter Try.func59, Try.ntmps59
    go_wp2
    refine wp_loop_rounds 1 ?_
    rw [rounds_succ]
    go_wp2
    go_ret
    exact ⟨ret_int (by simp), Own.nil_, World.grownBy.refl _ _⟩
  · exact mark_any g n cap base xs q w hl ho hn hq0 hq1
/-- laws.heldInt64S of marks. -/
theorem held_yes (ao : Option Addr) (n cap : Nat) (q : Int) (w : World) (hr : Rd w ao n (marks q n)) (hn : n ≤ 4294967296) (hq0 : 0 ≤ q) (hq1 : q ≤ 4294967296) :
    Calls Try.prog 60 #[.slice ao n cap, .int .i64 q] w fun e w' => e = .returned (.int .i64 (q + n)) ∧ w = w' := by
  obtain ⟨hlen, hat⟩ := hr
  have HA := Lib.hid hat; clear hat hlen
  go_enter Try.func60, Try.ntmps60
  go_wp2
  go_loop [1, 5] (fun v i => ∃ k : Nat, k ≤ n ∧ i = .int .i64 k ∧ v = .int .i64 (q + k)) (fun _ i => n - (intOf i).toNat)
  case atStart => exact ⟨0, Nat.zero_le _, rfl, by simp⟩
  case round =>
    obtain ⟨k, hk, rfl, rfl⟩ := hrel
    by_cases hlt : k < n
    · obtain ⟨b, off, rfl, hc⟩ := HA.out (by omega)
      have hck := hc k hlt
      rw [marks_getD q n k hlt] at hck
      clear hc HA
      have hne : ((q + (k : Int)) != (q + (k : Int))) = false := by simp
      go_wp2
      go_round
      case rel => exact ⟨k + 1, by omega, by go_num, by go_num⟩
      case measure => simp [intOf]; omega
    · have hkn : k = n := by omega
      subst hkn
      go_wp2
      go_ret
      exact ⟨rfl, rfl⟩

/-- spec.l01All. -/
theorem l01All_any (ao : Option Addr) (n cap : Nat) (xs : List Int) (most hi : Int) (w : World) (hr : Rd w ao n xs) (hn : n ≤ 9223372036854775807) :
    Calls Try.prog 133 #[.slice ao n cap, .int .i64 most, .int .i64 hi] w fun e w' => e = .returned (.bool (within most hi xs)) ∧ w = w' := by
  obtain ⟨hlen, hat⟩ := hr
  by_cases hm : (n : Int) ≤ most
  · have HL := Lib.hid hlen; clear hlen
    have HA := Lib.hid hat; clear hat
    go_enter Try.func133, Try.ntmps133
    go_wp2
    go_loop [7] (fun i => ∃ k : Nat, k ≤ n ∧ i = .int .i64 k ∧ Hid (allIn hi (xs.take k) = true)) (fun i => n - (intOf i).toNat)
    case atStart => exact ⟨0, Nat.zero_le _, rfl, rfl⟩
    case round =>
      obtain ⟨k, hk, rfl, hall⟩ := hrel
      by_cases hlt : k < n
      · obtain ⟨b, off, rfl, hc⟩ := HA.out (by omega)
        have hck := hc k hlt
        clear hc HA
        have hkx : k < xs.length := by rw [HL.out]; exact hlt
        obtain ⟨x, hx⟩ : ∃ x, x = xs.getD k 0 := ⟨_, rfl⟩
        rw [← hx] at hck
        have HX := Lib.hid hx; clear hx
        have HK := Lib.hid hkx; clear hkx
        by_cases h0 : x < 0 ∨ hi < x
        · have H0 := Lib.hid h0; clear h0
          go_wp2_with (go_at_call 107; refine (l01In_no _ _ _ _ H0.out).mono ?_; rintro e w' ⟨rfl, rfl⟩)
          go_ret
          exact ⟨ret_bool (within_no (allIn_no HK.out (by rw [← HX.out]; exact H0.out.elim inR_low inR_high))).symm, rfl⟩
        · have h1 : 0 ≤ x := by omega
          have h2 : x ≤ hi := by omega
          clear h0
          go_wp2_with (go_at_call 107; refine (l01In_yes _ _ _ _ h1 h2).mono ?_; rintro e w' ⟨rfl, rfl⟩)
          go_round
          case rel => exact ⟨k + 1, by omega, by go_num, allIn_succ HK.out hall.out (by rw [← HX.out]; exact inR_true (by omega) (by omega))⟩
          case measure => simp [intOf]; omega
      · have hkn : k = n := by omega
        subst hkn
        go_wp2
        go_ret
        exact ⟨ret_bool (within_yes (by rw [HL.out]; exact hm) (by have := hall.out; rwa [List.take_of_length_le (by rw [HL.out]; exact Nat.le_refl _)] at this)).symm, rfl⟩
  · have hf : within most hi xs = false := within_long (by omega)
    rw [hf]
    clear hlen hat hf
    go_enter Try.func133, Try.ntmps133
    go_wp2
    go_ret
    exact ⟨rfl, rfl⟩

theorem isBits_any (ao : Option Addr) (n cap : Nat) (xs : List Int) (w : World) (hr : Rd w ao n xs) (hn : n ≤ 9223372036854775807) :
    Calls Try.prog 95 #[.slice ao n cap] w fun e w' => e = .returned (.bool (isBits xs)) ∧ w = w' := by
  go_enter Try.func95, Try.ntmps95
  go_wp2_with (go_at_call 130; refine (isListWithin_any _ _ _ xs _ _ _ hr hn).mono ?_; rintro e w' ⟨rfl, rfl⟩)
  go_ret
  exact ⟨rfl, rfl⟩
theorem isBytes_any (ao : Option Addr) (n cap : Nat) (xs : List Int) (w : World) (hr : Rd w ao n xs) (hn : n ≤ 9223372036854775807) :
    Calls Try.prog 84 #[.slice ao n cap] w fun e w' => e = .returned (.bool (isBytes xs)) ∧ w = w' := by
  go_enter Try.func84, Try.ntmps84
  go_wp2_with (go_at_call 130; refine (isListWithin_any _ _ _ xs _ _ _ hr hn).mono ?_; rintro e w' ⟨rfl, rfl⟩)
  go_ret
  exact ⟨rfl, rfl⟩
theorem sIsBytes_any (ao : Option Addr) (n cap : Nat) (xs : List Int) (w : World) (hr : Rd w ao n xs) (hn : n ≤ 9223372036854775807) :
    Calls Try.prog 92 #[.slice ao n cap] w fun e w' => e = .returned (.bool (isBytes xs)) ∧ w = w' := by
  go_enter Try.func92, Try.ntmps92
  go_wp2_with (go_at_call 133; refine (l01All_any _ _ _ xs _ _ _ hr hn).mono ?_; rintro e w' ⟨rfl, rfl⟩)
  go_ret
  exact ⟨rfl, rfl⟩
end

section
open Go.RowKit

/-- impl.pushNumber. -/
theorem push_any (base : Nat) (v0 : Value) (xs : List Int) (val : Int) (width : Nat) (w : World) (ho : Own 2 w base v0 xs) (hl : xs.length ≤ 1048576) (hb : base ≤ w.heap.size) (hw : width ≤ 40) :
    Calls Try.prog 94 #[v0, .int .i64 val, .int .i64 width] w fun e w' => ∃ v, e = .returned v ∧ Own 2 w' base v (xs ++ bitsOf val width) ∧ Below base w w' := by
  have ho' : Own 2 w base v0 (xs ++ topBits val width (width - width)) := by rw [Nat.sub_self]; simpa [topBits] using ho
  have HO := Lib.hid ho'; clear ho ho'
  go_enter Try.func94, Try.ntmps94
  go_wp2
  go_loopw [0, 7] (fun v i wr => ∃ s : Nat, s ≤ width ∧ i = .int .i64 ((s : Int) - 1) ∧ Own 2 wr base v (xs ++ topBits val width (width - s)) ∧ Below base w wr) (fun _ i _ => (intOf i + 1).toNat)
  case atStart => exact ⟨width, Nat.le_refl _, rfl, HO.out, Below.refl _ _⟩
  case round =>
    obtain ⟨s, hs, rfl, hown, hbel⟩ := hrel
    rcases s with _ | s
    · have e : ((0 : Nat) : Int) - 1 = -1 := by omega
      rw [e]; clear e
      have HW := Lib.hid hown; clear hown
      go_wp2
      go_ret
      exact ⟨_, rfl, by have h := HW.out; rwa [Nat.sub_zero] at h, hbel⟩
    · have e : ((s + 1 : Nat) : Int) - 1 = (s : Int) := by omega
      rw [e]; clear e
      have hlen := topBits_len val width (width - (s + 1))
      have hl2 : (xs ++ topBits val width (width - (s + 1))).length ≤ 4294967296 := by rw [List.length_append, hlen]; omega
      clear hlen
      have hsz := hbel.size
      have HW := Lib.hid hown; clear hown
      have HB := Lib.hid hbel; clear hbel
      go_wp2_with (at_builtin; refine append_one _ rfl (.tmp 14) (.tmp 19) rfl base Try.underlying26 info64 _ _ rfl (HW.out.below ((Below.refl _ _).alloc (Nat.le_refl _) _)) _ _ _ rfl (new_cell rfl) hl2 (by simp; omega) ?_; intro v' w' hown hbel)
      have HO' := Lib.hid hown; clear hown
      have HB' := Lib.hid hbel; clear hbel
      go_wp2
      go_roundw
      case rel => exact ⟨s, by omega, by go_num, by have h := HO'.out; rw [and_one, List.append_assoc, show val / 2 ^ s % 2 = bitAt val width (width - (s + 1)) from by unfold bitAt; rw [show width - 1 - (width - (s + 1)) = s from by omega], ← topBits_succ, show width - (s + 1) + 1 = width - s from by omega] at h; exact h, (HB.out.alloc (by omega) _).trans HB'.out⟩
      case measure => simp [intOf]
theorem an_1 {xs : List Int} {v width : Int} (h : isBits xs = false) : appendNumber xs v width = ([], 1) := by simp [appendNumber, h]
theorem an_2a {xs : List Int} {v width : Int} (h : isBits xs = true) (h2 : ¬ (0 ≤ width ∧ width ≤ 40)) : appendNumber xs v width = ([], 2) := by
  unfold appendNumber; rw [if_neg (by simp [h]), if_pos (.inl h2)]
theorem an_2b {xs : List Int} {v width : Int} (h : isBits xs = true) (h2 : ¬ (0 ≤ v ∧ v < 2 ^ width.toNat)) : appendNumber xs v width = ([], 2) := by
  unfold appendNumber; rw [if_neg (by simp [h]), if_pos (.inr h2)]
theorem an_3 {xs : List Int} {v width : Int} (h : isBits xs = true) (h1 : 0 ≤ width ∧ width ≤ 40) (h2 : 0 ≤ v ∧ v < 2 ^ width.toNat) (h3 : 8192 < (xs.length : Int) + width) : appendNumber xs v width = ([], 3) := by
  unfold appendNumber; rw [if_neg (by simp [h]), if_neg (by rintro (h | h) <;> exact h ‹_›), if_pos h3]
theorem an_0 {xs : List Int} {v width : Int} (h : isBits xs = true) (h1 : 0 ≤ width ∧ width ≤ 40) (h2 : 0 ≤ v ∧ v < 2 ^ width.toNat) (h3 : ¬ 8192 < (xs.length : Int) + width) : appendNumber xs v width = (xs ++ bitsOf v width.toNat, 0) := by
  unfold appendNumber; rw [if_neg (by simp [h]), if_neg (by rintro (h | h) <;> exact h ‹_›), if_neg h3]

end

section
open Go.RowKit

/-- spec.l01Append. -/
theorem l01Append_any (ao : Option Addr) (n cap : Nat) (xs : List Int) (val : Int) (width : Nat) (w : World) (hr : Rd w ao n xs) (hl : n ≤ 1048576) (hw : width ≤ 40) :
    Calls Try.prog 153 #[.slice ao n cap, .int .i64 val, .int .i64 width] w (Makes 2 w (xs ++ bitsOf val width)) := by
  have hxl := hr.len
  have hl' : xs.length ≤ 1048576 := by omega
  clear hxl
  go_enter Try.func153, Try.ntmps153
  go_wp2_with (at_builtin; refine append_list _ rfl (.tmp 9) (.tmp 10) rfl w.heap.size Try.underlying26 info64 _ [] rfl (Own.of_alloc_nil (Nat.le_refl _)) _ _ _ xs rfl (hr.below ((Below.refl _ _).alloc (Nat.le_refl _) _)) (by simp; omega) (by simp) ?_; intro v1 w1 o1 b1)
  have b1' : Below w.heap.size w w1 := ((Below.refl _ _).alloc (Nat.le_refl _) _).trans b1
  have o1' : Own 2 w1 w.heap.size v1 (xs ++ topBits val width (width - width)) := by rw [Nat.sub_self]; simpa [topBits] using o1
  have HO := Lib.hid o1'; clear o1 o1' b1
  go_wp2
  go_loopw [7, 8] (fun v i wr => ∃ s : Nat, s ≤ width ∧ i = .int .i64 ((s : Int) - 1) ∧ Own 2 wr w.heap.size v (xs ++ topBits val width (width - s)) ∧ Below w.heap.size w wr) (fun _ i _ => (intOf i + 1).toNat)
  case atStart => exact ⟨width, Nat.le_refl _, rfl, HO.out, b1'⟩
  case round =>
    clear HO b1'
    obtain ⟨s, hs, rfl, hown, hbel⟩ := hrel
    rcases s with _ | s
    · have e : ((0 : Nat) : Int) - 1 = -1 := by omega
      rw [e]; clear e
      have HW := Lib.hid hown; clear hown
      go_wp2
      go_ret
      exact ⟨_, rfl, by have h := HW.out; rwa [Nat.sub_zero] at h, hbel⟩
    · have e : ((s + 1 : Nat) : Int) - 1 = (s : Int) := by omega
      rw [e]; clear e
      have hlen := topBits_len val width (width - (s + 1))
      have hl2 : (xs ++ topBits val width (width - (s + 1))).length ≤ 4294967296 := by rw [List.length_append, hlen]; omega
      clear hlen
      have hsz := hbel.size
      have HW := Lib.hid hown; clear hown
      have HB := Lib.hid hbel; clear hbel
      go_wp2_with (at_builtin; refine append_one _ rfl (.tmp 18) (.tmp 24) rfl w.heap.size Try.underlying26 info64 _ _ rfl (HW.out.below ((Below.refl _ _).alloc (Nat.le_refl _) _)) _ _ _ rfl (new_cell rfl) hl2 (by simp; omega) ?_; intro v' w' hown hbel)
      have HO' := Lib.hid hown; clear hown
      have HB' := Lib.hid hbel; clear hbel
      go_wp2
      go_roundw
      case rel => exact ⟨s, by omega, by go_num, by have h := HO'.out; rw [and_one, List.append_assoc, show val / 2 ^ s % 2 = bitAt val width (width - (s + 1)) from by unfold bitAt; rw [show width - 1 - (width - (s + 1)) = s from by omega], ← topBits_succ, show width - (s + 1) + 1 = width - s from by omega] at h; exact h, (HB.out.alloc (by omega) _).trans HB'.out⟩
      case measure => simp [intOf]

/-- impl.numberOf of at most forty bits. -/
theorem numberOf_any (ao : Option Addr) (n cap : Nat) (xs : List Int) (w : World) (hr : Rd w ao n xs) (hn : n ≤ 40) (hbits : ∀ x ∈ xs, 0 ≤ x ∧ x ≤ 1) :
    Calls Try.prog 96 #[.slice ao n cap] w fun e w' => e = .returned (.int .i64 (numOf xs)) ∧ w = w' := by
  obtain ⟨hlen, hat⟩ := hr
  have HL := Lib.hid hlen; clear hlen
  have HA := Lib.hid hat; clear hat
  have HZ := Lib.hid hbits; clear hbits
  go_enter Try.func96, Try.ntmps96
  go_wp2
  go_loop [3, 8] (fun v i => ∃ k : Nat, k ≤ n ∧ i = .int .i64 k ∧ v = .int .i64 (numOf (xs.take k))) (fun _ i => n - (intOf i).toNat)
  case atStart => exact ⟨0, Nat.zero_le _, rfl, rfl⟩
  case round =>
    obtain ⟨k, hk, rfl, rfl⟩ := hrel
    by_cases hlt : k < n
    · obtain ⟨b, off, rfl, hc⟩ := HA.out (by omega)
      have hck := hc k hlt
      clear hc HA
      have hkx : k < xs.length := by rw [HL.out]; exact hlt
      have hb0 := HZ.out (xs.getD k 0) (by rw [List.getD, List.getElem?_eq_getElem hkx]; exact List.getElem_mem hkx)
      have hs := take_succ' xs k hkx
      have hbd := numOf_bound (xs.take k) (fun x hx => HZ.out x (List.mem_of_mem_take hx))
      rw [List.length_take, Nat.min_eq_left (by omega)] at hbd
      have hp := pow40 k (by omega)
      have hfin : numOf (xs.take (k + 1)) = bits .or .i64 (numOf (xs.take k) * 2) (xs.getD k 0) := by
        rw [hs, numOf_snoc, or_bit _ _ hbd.1 (by omega) hb0.1 hb0.2]
      obtain ⟨x, hx⟩ : ∃ x, x = xs.getD k 0 := ⟨_, rfl⟩
      obtain ⟨q, hq⟩ : ∃ q, q = numOf (xs.take k) := ⟨_, rfl⟩
      rw [← hx] at hck hb0 hfin
      rw [← hq] at hbd hfin
      rw [← hq]
      have HF := Lib.hid hfin; clear hfin hx hq hs hkx HZ
      obtain ⟨hb1, hb2⟩ := hb0
      obtain ⟨hd1, hd2⟩ := hbd
      have hd3 : q ≤ 1099511627776 := by omega
      clear hd2 hp
      go_wp2
      go_round
      case rel => exact ⟨k + 1, by omega, by go_num, by rw [HF.out]⟩
      case measure => simp [intOf]; omega
    · have hkn : k = n := by omega
      subst hkn
      have hfin : numOf (xs.take k) = numOf xs := by rw [List.take_of_length_le (by rw [HL.out]; exact Nat.le_refl _)]
      have HF := Lib.hid hfin; clear hfin
      go_wp2
      go_ret
      exact ⟨ret_int HF.out, rfl⟩

/-- spec.l01Number. -/
theorem l01Number_any (ao : Option Addr) (n cap : Nat) (xs : List Int) (a wd : Nat) (w : World) (hr : Rd w ao n xs) (hn : n ≤ 4294967296) (haw : a + wd ≤ n) (hwd : wd ≤ 40) (hbits : ∀ x ∈ xs, 0 ≤ x ∧ x ≤ 1) :
    Calls Try.prog 154 #[.slice ao n cap, .int .i64 a, .int .i64 wd] w fun e w' => e = .returned (.int .i64 (numOf ((xs.drop a).take wd))) ∧ w = w' := by
  obtain ⟨hlen, hat⟩ := hr
  have HL := Lib.hid hlen; clear hlen
  have HA := Lib.hid hat; clear hat
  have HZ := Lib.hid hbits; clear hbits
  go_enter Try.func154, Try.ntmps154
  go_wp2
  go_loop [7, 8] (fun v i => ∃ k : Nat, k ≤ wd ∧ i = .int .i64 k ∧ v = .int .i64 (numOf ((xs.drop a).take k))) (fun _ i => wd - (intOf i).toNat)
  case atStart => exact ⟨0, Nat.zero_le _, rfl, rfl⟩
  case round =>
    obtain ⟨k, hk, rfl, rfl⟩ := hrel
    by_cases hlt : k < wd
    · obtain ⟨b, off, rfl, hc⟩ := HA.out (by omega)
      have hck := hc (a + k) (by omega)
      clear hc HA
      have hkx : a + k < xs.length := by rw [HL.out]; omega
      have hb0 := HZ.out (xs.getD (a + k) 0) (by rw [List.getD, List.getElem?_eq_getElem hkx]; exact List.getElem_mem hkx)
      have hdk : k < (xs.drop a).length := by rw [List.length_drop]; omega
      have hs := take_succ' (xs.drop a) k hdk
      have hg : (xs.drop a).getD k 0 = xs.getD (a + k) 0 := by simp [List.getD, List.getElem?_drop]
      have hbd := numOf_bound ((xs.drop a).take k) (fun x hx => HZ.out x (List.mem_of_mem_drop (List.mem_of_mem_take hx)))
      rw [List.length_take, Nat.min_eq_left (by omega)] at hbd
      have hp := pow40 k (by omega)
      have hfin : numOf ((xs.drop a).take (k + 1)) = 2 * numOf ((xs.drop a).take k) + xs.getD (a + k) 0 := by rw [hs, numOf_snoc, hg]
      obtain ⟨x, hx⟩ : ∃ x, x = xs.getD (a + k) 0 := ⟨_, rfl⟩
      obtain ⟨q, hq⟩ : ∃ q, q = numOf ((xs.drop a).take k) := ⟨_, rfl⟩
      rw [← hx] at hck hb0 hfin
      rw [← hq] at hbd hfin
      rw [← hq]
      have HF := Lib.hid hfin; clear hfin hx hq hs hkx HZ hg hdk
      obtain ⟨hb1, hb2⟩ := hb0
      obtain ⟨hd1, hd2⟩ := hbd
      have hd3 : q ≤ 1099511627776 := by omega
      clear hd2 hp
      go_wp2
      go_round
      case rel => exact ⟨k + 1, by omega, by go_num, by rw [HF.out]⟩
      case measure => simp [intOf]; omega
    · have hkn : k = wd := by omega
      subst hkn
      go_wp2
      go_ret
      exact ⟨rfl, rfl⟩

theorem na_1 {xs : List Int} {v width : Int} (h : isBits xs = false) : numberAt xs v width = (0, 1) := by simp [numberAt, h]
theorem na_2a {xs : List Int} {v width : Int} (h : isBits xs = true) (h2 : ¬ (0 ≤ width ∧ width ≤ 40)) : numberAt xs v width = (0, 2) := by
  unfold numberAt; rw [if_neg (by simp [h]), if_pos (.inl h2)]
theorem na_2b {xs : List Int} {v width : Int} (h : isBits xs = true) (h2 : ¬ (0 ≤ v ∧ v ≤ (xs.length : Int) - width)) : numberAt xs v width = (0, 2) := by
  unfold numberAt; rw [if_neg (by simp [h]), if_pos (.inr h2)]
theorem na_0 {xs : List Int} {v width : Int} (h : isBits xs = true) (h1 : 0 ≤ width ∧ width ≤ 40) (h2 : 0 ≤ v ∧ v ≤ (xs.length : Int) - width) : numberAt xs v width = (numOf ((xs.drop v.toNat).take width.toNat), 0) := by
  unfold numberAt; rw [if_neg (by simp [h]), if_neg (by rintro (h | h) <;> exact h ‹_›)]

end

section
open Go.RowKit

theorem flat_succ (xs : List Int) (k : Nat) (hk : k < xs.length) : (xs.take (k + 1)).flatMap (bitsOf · 8) = (xs.take k).flatMap (bitsOf · 8) ++ bitsOf (xs.getD k 0) 8 := by
  rw [take_succ' xs k hk, List.flatMap_append]; simp
theorem flat_take_len (xs : List Int) (k : Nat) (hk : k ≤ xs.length) : ((xs.take k).flatMap (bitsOf · 8)).length = 8 * k := by
  rw [flat_len, List.length_take, Nat.min_eq_left hk]
theorem bb_1 {xs : List Int} (h : isBytes xs = false) : bytesToBits xs = ([], 1) := by simp [bytesToBits, h]
theorem bb_0 {xs : List Int} (h : isBytes xs = true) : bytesToBits xs = (xs.flatMap (bitsOf · 8), 0) := by simp [bytesToBits, h]

theorem bytesToBits_any (ao : Option Addr) (cap : Nat) (xs : List Int) (w : World) (hr : Rd w ao xs.length xs) (hn : xs.length ≤ 1048576) :
    Calls Try.prog 31 #[.slice ao xs.length cap] w (Makes2 2 w (bytesToBits xs).1 (bytesToBits xs).2) := by
  by_cases hb : isBytes xs = true
  · have hsz := (isBytes_iff.1 hb).1
    rw [bb_0 hb]
    have HB := Lib.hid hb; clear hb
    go_enter Try.func31, Try.ntmps31
    go_wp2_with (first
      | (go_at_call 84; refine (isBytes_any _ _ _ _ _ hr (by omega)).mono ?_; rintro e w' ⟨rfl, rfl⟩; rw [HB.out])
      | (at_make; refine make_cap _ rfl _ _ rfl w.heap.size Try.underlying26 info64 _ _ _ _ 0 (8 * xs.length) rfl rfl rfl (by omega) (by omega) (by omega) (Nat.le_refl _) ?_; intro w1 o1 b1))
    go_loopw [4, 16] (fun v i wr => ∃ k : Nat, k ≤ xs.length ∧ i = .int .i64 k ∧ Own 2 wr w.heap.size v ((xs.take k).flatMap (bitsOf · 8)) ∧ Below w.heap.size w wr) (fun _ i _ => xs.length - (intOf i).toNat)
    case atStart => exact ⟨0, Nat.zero_le _, rfl, o1, b1⟩
    case round =>
      clear o1 b1
      obtain ⟨k, hk, rfl, hown, hbel⟩ := hrel
      by_cases hlt : k < xs.length
      · obtain ⟨b, off, rfl, hc⟩ := (hr.below hbel).here (by omega)
        have hck := hc k hlt
        have hfl := flat_take_len xs k hk
        have hl2 : ((xs.take k).flatMap (bitsOf · 8)).length ≤ 1048576 := by omega
        have hbs := hbel.size
        clear hc hfl
        have hfs := flat_succ xs k hlt
        obtain ⟨x, hx⟩ : ∃ x, x = xs.getD k 0 := ⟨_, rfl⟩
        rw [← hx] at hck hfs
        have HFS := Lib.hid hfs; clear hfs hx
        have HO := Lib.hid hown; clear hown
        have HBE := Lib.hid hbel; clear hbel
        go_wp2_with (go_at_call 94; refine (push_any w.heap.size _ _ _ 8 _ HO.out hl2 hbs (by omega)).mono ?_; rintro e w3 ⟨v3, rfl, o3, b3⟩)
        have h3 := o3
        rw [← HFS.out] at h3
        have HO3 := Lib.hid h3; clear h3 o3
        go_roundw
        case rel => exact ⟨k + 1, by omega, by go_num, HO3.out, HBE.out.trans b3⟩
        case measure => simp [intOf]; omega
      · have hkn : k = xs.length := by omega
        subst hkn
        have HO := Lib.hid hown; clear hown
        go_wp2
        go_ret2
        exact ⟨_, rfl, by have h := HO.out; rwa [List.take_length] at h, hbel⟩
  · have hb' : isBytes xs = false := by simpa using hb
    rw [bb_1 hb']
    have HB := Lib.hid hb'; clear hb hb'
    go_enter Try.func31, Try.ntmps31
    go_wp2_with (go_at_call 84; refine (isBytes_any _ _ _ _ _ hr (by omega)).mono ?_; rintro e w' ⟨rfl, rfl⟩; rw [HB.out])
    go_ret2
    exact ⟨_, rfl, Own.nil_, Below.refl _ _⟩

/-- spec.l01Bits. -/
theorem l01Bits_any (ao : Option Addr) (cap : Nat) (xs : List Int) (w : World) (hr : Rd w ao xs.length xs) (hn : xs.length ≤ 1048576) :
    Calls Try.prog 127 #[.slice ao xs.length cap] w (Makes 2 w (xs.flatMap (bitsOf · 8))) := by
  go_enter Try.func127, Try.ntmps127
  go_wp2
  go_loopw [3, 4] (fun v i wr => ∃ k : Nat, k ≤ xs.length ∧ i = .int .i64 k ∧ Own 2 wr w.heap.size v ((xs.take k).flatMap (bitsOf · 8)) ∧ Below w.heap.size w wr) (fun _ i _ => xs.length - (intOf i).toNat)
  case atStart => exact ⟨0, Nat.zero_le _, rfl, Own.of_alloc_nil (Nat.le_refl _), (Below.refl _ _).alloc (Nat.le_refl _) _⟩
  case round =>
    obtain ⟨k, hk, rfl, hown, hbel⟩ := hrel
    by_cases hlt : k < xs.length
    · have hfl := flat_take_len xs k hk
      have hl2 : ((xs.take k).flatMap (bitsOf · 8)).length ≤ 8388608 := by omega
      clear hfl
      have hfs := flat_succ xs k hlt
      have HFS := Lib.hid hfs; clear hfs
      have HO := Lib.hid hown; clear hown
      have HBE := Lib.hid hbel; clear hbel
      go_wp2
      go_loopw [3, 5] (fun v i wr' => ∃ s : Nat, s ≤ 8 ∧ i = .int .i64 ((s : Int) - 1) ∧ Own 2 wr' w.heap.size v ((xs.take k).flatMap (bitsOf · 8) ++ topBits (xs.getD k 0) 8 (8 - s)) ∧ Below w.heap.size w wr') (fun _ i _ => (intOf i + 1).toNat)
      case atStart => exact ⟨8, Nat.le_refl _, rfl, by have h := HO.out; simpa [topBits] using h, HBE.out⟩
      case round =>
        clear HO HBE
        obtain ⟨s, hs, rfl, hown, hbel⟩ := hrel
        rcases s with _ | s
        · have e : ((0 : Nat) : Int) - 1 = -1 := by omega
          rw [e]; clear e
          have h := hown
          rw [Nat.sub_zero] at h
          have HW := Lib.hid h; clear hown h
          have HB := Lib.hid hbel; clear hbel
          go_wp2
          go_roundw
          case rel => exact ⟨k + 1, by omega, by go_num, by rw [HFS.out]; exact HW.out, HB.out⟩
          case measure => simp [intOf]; omega
        · have e : ((s + 1 : Nat) : Int) - 1 = (s : Int) := by omega
          rw [e]; clear e
          obtain ⟨b, off, rfl, hc⟩ := (hr.below hbel).here (by omega)
          have hck := hc k hlt
          clear hc
          have hlen := topBits_len (xs.getD k 0) 8 (8 - (s + 1))
          have hl3 : ((xs.take k).flatMap (bitsOf · 8) ++ topBits (xs.getD k 0) 8 (8 - (s + 1))).length ≤ 4294967296 := by rw [List.length_append, hlen]; omega
          clear hlen
          have hsz := hbel.size
          obtain ⟨x, hx⟩ : ∃ x, x = xs.getD k 0 := ⟨_, rfl⟩
          rw [← hx] at hck
          have HX := Lib.hid hx; clear hx
          have HW := Lib.hid hown; clear hown
          have HB := Lib.hid hbel; clear hbel
          go_wp2_with (at_builtin; refine append_one _ rfl (.tmp 17) (.tmp 26) rfl w.heap.size Try.underlying26 info64 _ _ rfl (HW.out.below ((Below.refl _ _).alloc (Nat.le_refl _) _)) _ _ _ rfl (new_cell rfl) hl3 (by simp; omega) ?_; intro v' w' hown hbel)
          have h := hown
          rw [and_one, HX.out, List.append_assoc, show (xs.getD k 0) / 2 ^ s % 2 = bitAt (xs.getD k 0) 8 (8 - (s + 1)) from by unfold bitAt; rw [show 8 - 1 - (8 - (s + 1)) = s from by omega], ← topBits_succ, show 8 - (s + 1) + 1 = 8 - s from by omega] at h
          have HO' := Lib.hid h; clear h hown
          have HB' := Lib.hid hbel; clear hbel
          go_wp2
          go_roundw
          case rel => exact ⟨s, by omega, by go_num, HO'.out, (HB.out.alloc (by omega) _).trans HB'.out⟩
          case measure => simp [intOf]
    · have hkn : k = xs.length := by omega
      subst hkn
      have HO := Lib.hid hown; clear hown
      go_wp2
      go_ret
      exact ⟨_, rfl, by have h := HO.out; rwa [List.take_length] at h, hbel⟩
end
end Go.Proofs.Ytbdfnkhmnglpbaa
