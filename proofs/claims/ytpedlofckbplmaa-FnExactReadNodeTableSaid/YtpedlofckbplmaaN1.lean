/-
  Chapter 10: names and entries, of the program and of its model; entries copied and compared by the laws.
-/
import Derived.Test.YtpedlofckbplmaaNw
import Derived.Test.YtpedlofckbplmaaIn
import Derived.Test.YtpedlofckbplmaaFiv
import Derived.Laws.StructEq
import Derived.Lib.SlicesS
namespace Go.Proofs.Ytpedlofckbplmaa
open Go.RowKit

theorem charOk_iff {c : Int} : charOk c = true ↔ (97 ≤ c ∧ c ≤ 122) ∨ (48 ≤ c ∧ c ≤ 57) := by simp [charOk]
theorem charOk_eq {c : Int} {b : Bool} (h : ((97 ≤ c ∧ c ≤ 122) ∨ (48 ≤ c ∧ c ≤ 57)) ↔ b = true) : charOk c = b := by rw [Bool.eq_iff_iff, charOk_iff, h]
/-- impl.isNameByte. -/
theorem isNameByte_any (c : Int) (w : World) : Calls Try.prog 127 #[.int .u8 c] w fun e w' => e = .returned (.bool (charOk c)) ∧ w = w' := by
  by_cases h1 : 97 ≤ c
  · by_cases h2 : c ≤ 122
    · rw [charOk_eq (b := true) (by simp; omega)]
      go_enter Try.func127, Try.ntmps127
      go_wp2
      go_ret
      exact ⟨rfl, rfl⟩
    · rw [charOk_eq (b := false) (by simp; omega)]
      have h3 : 48 ≤ c := by omega
      have h4 : ¬ c ≤ 57 := by omega
      go_enter Try.func127, Try.ntmps127
      go_wp2
      go_ret
      exact ⟨rfl, rfl⟩
  · by_cases h3 : 48 ≤ c
    · rw [charOk_eq (b := decide (c ≤ 57)) (by simp; omega)]
      go_enter Try.func127, Try.ntmps127
      go_wp2
      go_ret
      exact ⟨rfl, rfl⟩
    · rw [charOk_eq (b := false) (by simp; omega)]
      go_enter Try.func127, Try.ntmps127
      go_wp2
      go_ret
      exact ⟨rfl, rfl⟩

theorem all_char_succ {xs : List Int} {k : Nat} (hk : k < xs.length) (h : (xs.take k).all charOk = true) (hx : charOk (xs.getD k 0) = true) : (xs.take (k + 1)).all charOk = true := by
  rw [take_succ' xs k hk, List.all_append, h]; simp [-List.getD_eq_getElem?_getD, hx]
theorem all_char_no {xs : List Int} {k : Nat} (hk : k < xs.length) (hx : charOk (xs.getD k 0) = false) : xs.all charOk = false := by
  rw [List.all_eq_false]
  refine ⟨xs[k], List.getElem_mem hk, ?_⟩
  rw [List.getD, List.getElem?_eq_getElem hk] at hx
  simpa using hx
theorem nameOk_no {s : ByteArray} (h : (nums s).all charOk = false) : nameOk s = false := by unfold nameOk; rw [h]; rfl
theorem nameOk_size {s : ByteArray} (h : (nums s).all charOk = true) : nameOk s = (decide (1 ≤ s.size) && decide (s.size ≤ 6)) := by unfold nameOk; rw [h]; rfl
theorem nameOk_short {s : ByteArray} (h : s.size < 1 ∨ 6 < s.size) : nameOk s = false := by
  unfold nameOk
  have : (decide (1 ≤ s.size) && decide (s.size ≤ 6)) = false := by rw [Bool.and_eq_false_iff, decide_eq_false_iff_not, decide_eq_false_iff_not]; omega
  rw [this, Bool.and_false]
/-- impl.isNodeName. -/
theorem isNodeName_any (s : ByteArray) (w : World) (hn : s.size ≤ 1048576) : Calls Try.prog 103 #[.string s] w fun e w' => e = .returned (.bool (nameOk s)) ∧ w = w' := by
  by_cases h0 : s.size = 0
  · rw [nameOk_short (by omega)]
    have h0' : ((s.size : Int) == 0) = true := by rw [beq_iff_eq]; omega
    go_enter Try.func103, Try.ntmps103
    go_wp2
    go_ret
    exact ⟨rfl, rfl⟩
  have h0' : ((s.size : Int) == 0) = false := by rw [beq_eq_false_iff_ne]; omega
  by_cases h6 : 6 < s.size
  · rw [nameOk_short (by omega)]
    have h6' : (6 : Int) < (s.size : Int) := by omega
    clear h0 h6
    go_enter Try.func103, Try.ntmps103
    go_wp2
    go_ret
    exact ⟨rfl, rfl⟩
  have h6' : ¬ (6 : Int) < (s.size : Int) := by omega
  have h6d : decide ((6 : Int) < (s.size : Int)) = false := by simp; omega
  have hyes : (nums s).all charOk = true → nameOk s = true := fun h => by rw [nameOk_size h]; simp; omega
  have HY := Lib.hid hyes; clear hyes
  have hnl := nums_len s
  have HNL := Lib.hid hnl; clear hnl h0 h6
  go_enter Try.func103, Try.ntmps103
  go_wp2
  go_loopw [14] (fun i wr => ∃ k : Nat, k ≤ s.size ∧ i = .int .i64 k ∧ wr = w ∧ Hid (((nums s).take k).all charOk = true)) (fun i _ => s.size - (intOf i).toNat)
  case atStart => exact ⟨0, Nat.zero_le _, rfl, rfl, rfl⟩
  case round =>
    obtain ⟨k, hk, rfl, rfl, hall⟩ := hrel
    by_cases hlt : k < s.size
    · have hkn : k < (nums s).length := by rw [HNL.out]; exact hlt
      have hng := nums_getD s k hlt
      obtain ⟨c, hc⟩ : ∃ c : Int, ((s[k]'hlt).toNat : Int) = c := ⟨_, rfl⟩
      rw [hc] at hng
      have HNG := Lib.hid hng; clear hng
      have HKN := Lib.hid hkn; clear hkn
      rcases hcc : charOk c with _ | _
      · have hfin := nameOk_no (all_char_no HKN.out (by rw [HNG.out]; exact hcc))
        have HF := Lib.hid hfin; clear hfin
        go_wp2_with (go_at_call 127; refine (isNameByte_any _ _).mono ?_; rintro e w' ⟨rfl, rfl⟩; rw [hcc])
        go_ret
        rw [HF.out]
        exact ⟨rfl, rfl⟩
      · have hs := all_char_succ HKN.out hall.out (by rw [HNG.out]; exact hcc)
        have HS := Lib.hid hs; clear hs
        go_wp2_with (go_at_call 127; refine (isNameByte_any _ _).mono ?_; rintro e w' ⟨rfl, rfl⟩; rw [hcc])
        go_roundw
        case rel => exact ⟨k + 1, by omega, by go_num, trivial, HS.out⟩
        case measure => simp [intOf]; omega
    · have hkn : k = s.size := by omega
      subst hkn
      go_wp2
      go_ret
      rw [HY.out (by have := hall.out; rwa [List.take_of_length_le (by rw [HNL.out]; exact Nat.le_refl _)] at this)]
      exact ⟨rfl, rfl⟩
/-- spec.l10Name. -/
theorem l10Name_any (s : ByteArray) (w : World) (hn : s.size ≤ 1048576) : Calls Try.prog 107 #[.string s] w fun e w' => e = .returned (.bool (nameOk s)) ∧ w = w' := by
  have hnl := nums_len s
  have HNL := Lib.hid hnl; clear hnl
  go_enter Try.func107, Try.ntmps107
  go_wp2
  go_loopw [3] (fun i wr => ∃ k : Nat, k ≤ s.size ∧ i = .int .i64 k ∧ wr = w ∧ Hid (((nums s).take k).all charOk = true)) (fun i _ => s.size - (intOf i).toNat)
  case atStart => exact ⟨0, Nat.zero_le _, rfl, rfl, rfl⟩
  case round =>
    obtain ⟨k, hk, rfl, rfl, hall⟩ := hrel
    by_cases hlt : k < s.size
    · have hkn : k < (nums s).length := by rw [HNL.out]; exact hlt
      have hng := nums_getD s k hlt
      obtain ⟨c, hc⟩ : ∃ c : Int, ((s[k]'hlt).toNat : Int) = c := ⟨_, rfl⟩
      rw [hc] at hng
      have HNG := Lib.hid hng; clear hng
      have HKN := Lib.hid hkn; clear hkn
      have hno : charOk c = false → nameOk s = false := fun h => nameOk_no (all_char_no HKN.out (by rw [HNG.out]; exact h))
      have hyes : charOk c = true → ((nums s).take (k + 1)).all charOk = true := fun h => all_char_succ HKN.out hall.out (by rw [HNG.out]; exact h)
      have HN := Lib.hid hno; clear hno
      have HY := Lib.hid hyes; clear hyes
      by_cases h1 : c < 97
      · by_cases h3 : c < 48
        · have HF := Lib.hid (HN.out (charOk_eq (by simp; omega)))
          go_wp2
          go_ret
          rw [HF.out]
          exact ⟨rfl, rfl⟩
        · by_cases h4 : 57 < c
          · have HF := Lib.hid (HN.out (charOk_eq (by simp; omega)))
            go_wp2
            go_ret
            rw [HF.out]
            exact ⟨rfl, rfl⟩
          · have HF := Lib.hid (HY.out (charOk_eq (by simp; omega)))
            go_wp2
            go_roundw
            case rel => exact ⟨k + 1, by omega, by go_num, trivial, HF.out⟩
            case measure => simp [intOf]; omega
      · by_cases h2 : 122 < c
        · have h3 : ¬ c < 48 := by omega
          have h4 : 57 < c := by omega
          have HF := Lib.hid (HN.out (charOk_eq (by simp; omega)))
          go_wp2
          go_ret
          rw [HF.out]
          exact ⟨rfl, rfl⟩
        · have HF := Lib.hid (HY.out (charOk_eq (by simp; omega)))
          go_wp2
          go_roundw
          case rel => exact ⟨k + 1, by omega, by go_num, trivial, HF.out⟩
          case measure => simp [intOf]; omega
    · have hkn : k = s.size := by omega
      subst hkn
      have hfin := nameOk_size (by have := hall.out; rwa [List.take_of_length_le (by rw [HNL.out]; exact Nat.le_refl _)] at this)
      by_cases h1 : 1 ≤ s.size
      · by_cases h6 : s.size ≤ 6
        · have h1' : (1 : Int) ≤ (s.size : Int) := by omega
          have h6' : (s.size : Int) ≤ 6 := by omega
          have HF := Lib.hid hfin; clear hfin
          go_wp2
          go_ret
          rw [HF.out]
          exact ⟨ret_bool (by simp; omega), rfl⟩
        · have h1' : (1 : Int) ≤ (s.size : Int) := by omega
          have h6' : ¬ (s.size : Int) ≤ 6 := by omega
          have HF := Lib.hid hfin; clear hfin
          go_wp2
          go_ret
          rw [HF.out]
          exact ⟨ret_bool (by simp; omega), rfl⟩
      · have h1' : ¬ (1 : Int) ≤ (s.size : Int) := by omega
        have HF := Lib.hid hfin; clear hfin
        go_wp2
        go_ret
        rw [HF.out]
        exact ⟨ret_bool (by simp; omega), rfl⟩

theorem isNd_split (x : Nd) : isNd x = (isNode x.id && (nameOk x.name && (decide (0 ≤ x.drift) && decide (x.drift ≤ 1000)))) := rfl
/-- impl.IsNodeInfo. -/
theorem isNodeInfo_any (x : Nd) (w : World) (hn : x.name.size ≤ 1048576) : Calls Try.prog 61 #[ndVal x] w fun e w' => e = .returned (.bool (isNd x)) ∧ Below w.heap.size w w' := by
  obtain ⟨d, s, f, p⟩ := x
  have hs := isNd_split ⟨d, s, f, p⟩
  simp only at hs hn
  unfold ndVal
  simp only
  rcases h1 : isNode d with _ | _
  · rw [h1, Bool.false_and] at hs
    rw [hs]; clear hs
    go_enter Try.func61, Try.ntmps61
    go_wp2_with (go_at_call 102; refine (isNode_any _ _).mono ?_; rintro e w' ⟨rfl, rfl⟩; rw [h1])
    go_ret
    exact ⟨rfl, (Below.refl _ _).alloc (Nat.le_refl _) _⟩
  rcases h2 : nameOk s with _ | _
  · rw [h1, h2, Bool.false_and, Bool.and_false] at hs
    rw [hs]; clear hs
    go_enter Try.func61, Try.ntmps61
    go_wp2_with (first
      | (go_at_call 102; refine (isNode_any _ _).mono ?_; rintro e w' ⟨rfl, rfl⟩; rw [h1])
      | (go_at_call 103; refine (isNodeName_any _ _ hn).mono ?_; rintro e w' ⟨rfl, rfl⟩; rw [h2]))
    go_ret
    exact ⟨rfl, (Below.refl _ _).alloc (Nat.le_refl _) _⟩
  rw [h1, h2, Bool.true_and, Bool.true_and] at hs
  by_cases h3 : 0 ≤ f
  · rw [hs]; clear hs
    have h3d : decide (0 ≤ f) = true := decide_eq_true h3
    rw [h3d, Bool.true_and]; clear h3d
    go_enter Try.func61, Try.ntmps61
    go_wp2_with (first
      | (go_at_call 102; refine (isNode_any _ _).mono ?_; rintro e w' ⟨rfl, rfl⟩; rw [h1])
      | (go_at_call 103; refine (isNodeName_any _ _ hn).mono ?_; rintro e w' ⟨rfl, rfl⟩; rw [h2]))
    go_ret
    exact ⟨rfl, (Below.refl _ _).alloc (Nat.le_refl _) _⟩
  · have h3d : decide (0 ≤ f) = false := decide_eq_false h3
    rw [h3d, Bool.false_and] at hs
    rw [hs]; clear hs h3d
    go_enter Try.func61, Try.ntmps61
    go_wp2_with (first
      | (go_at_call 102; refine (isNode_any _ _).mono ?_; rintro e w' ⟨rfl, rfl⟩; rw [h1])
      | (go_at_call 103; refine (isNodeName_any _ _ hn).mono ?_; rintro e w' ⟨rfl, rfl⟩; rw [h2]))
    go_ret
    exact ⟨rfl, (Below.refl _ _).alloc (Nat.le_refl _) _⟩
/-- spec.IsNodeInfo. -/
theorem sIsNodeInfo_any (x : Nd) (w : World) (hn : x.name.size ≤ 1048576) : Calls Try.prog 64 #[ndVal x] w fun e w' => e = .returned (.bool (isNd x)) ∧ Below w.heap.size w w' := by
  obtain ⟨d, s, f, p⟩ := x
  have hs := isNd_split ⟨d, s, f, p⟩
  simp only at hs hn
  unfold ndVal
  simp only
  rcases h1 : isNode d with _ | _
  · rw [h1, Bool.false_and] at hs
    rw [hs]; clear hs
    go_enter Try.func64, Try.ntmps64
    go_wp2_with (go_at_call 106; refine (l05Node_any _ _).mono ?_; rintro e w' ⟨rfl, rfl⟩; rw [h1])
    go_ret
    exact ⟨rfl, (Below.refl _ _).alloc (Nat.le_refl _) _⟩
  rcases h2 : nameOk s with _ | _
  · rw [h1, h2, Bool.false_and, Bool.and_false] at hs
    rw [hs]; clear hs
    go_enter Try.func64, Try.ntmps64
    go_wp2_with (first
      | (go_at_call 106; refine (l05Node_any _ _).mono ?_; rintro e w' ⟨rfl, rfl⟩; rw [h1])
      | (go_at_call 107; refine (l10Name_any _ _ hn).mono ?_; rintro e w' ⟨rfl, rfl⟩; rw [h2]))
    go_ret
    exact ⟨rfl, (Below.refl _ _).alloc (Nat.le_refl _) _⟩
  rw [h1, h2, Bool.true_and, Bool.true_and] at hs
  rw [hs]; clear hs
  go_enter Try.func64, Try.ntmps64
  go_wp2_with (first
    | (go_at_call 106; refine (l05Node_any _ _).mono ?_; rintro e w' ⟨rfl, rfl⟩; rw [h1])
    | (go_at_call 107; refine (l10Name_any _ _ hn).mono ?_; rintro e w' ⟨rfl, rfl⟩; rw [h2])
    | (go_at_call 63; refine (in_any _ _ _ _).mono ?_; rintro e w' ⟨rfl, rfl⟩))
  go_ret
  exact ⟨rfl, (Below.refl _ _).alloc (Nat.le_refl _) _⟩

/-- Two entries compared as they stand. -/
theorem nd_eql (x y : Nd) (w : World) : (binOp .eql 59 (ndVal x) (ndVal y)).run Try.prog w = .ok (.bool (decide (x = y))) w := by
  obtain ⟨d, s, f, p⟩ := x
  obtain ⟨d', s', f', p'⟩ := y
  unfold ndVal
  simp only
  rw [run_eql_struct]
  have h : (Op.equalIn 10000 59 (.agg #[.int .i64 d, .string s, .int .i64 f, .bool p]) (.agg #[.int .i64 d', .string s', .int .i64 f', .bool p'])).run Try.prog w = .ok (decide ((⟨d, s, f, p⟩ : Nd) = ⟨d', s', f', p'⟩)) w := by
    rw [run_equalIn_agg w 9999 _ _ _ (by kernel_rfl) (by kernel_rfl)]
    simp only [Program.fieldsOf, Try.underlying59, Op.eqFields]
    have hb : (s.toList = s'.toList) ↔ s = s' := by have h := Lib.bytes_beq_iff s s'; simpa using h
    by_cases h1 : d = d' <;> by_cases h2 : s = s' <;> by_cases h3 : f = f' <;> by_cases h4 : p = p' <;> simp [go_sem, h1, h2, h3, h4, hb]
  rw [h]; rfl
theorem bytes_self (s : ByteArray) : (s.toList == s.toList) = true := by simp
theorem eqNode_yes (x : Nd) (w : World) : Calls Try.prog 65 #[ndVal x, ndVal x] w fun e w' => e = .returned (.bool true) ∧ Below w.heap.size w w' := by
  unfold ndVal
  have h0 : (x.id != x.id) = false := by simp
  have h2 : (x.drift != x.drift) = false := by simp
  have h3 : (x.pas != x.pas) = false := by simp
  go_enter Try.func65, Try.ntmps65
  go_wp2
  go_ret
  exact ⟨rfl, ((Below.refl _ _).alloc (Nat.le_refl _) _).alloc (by simp) _⟩
end Go.Proofs.Ytpedlofckbplmaa
