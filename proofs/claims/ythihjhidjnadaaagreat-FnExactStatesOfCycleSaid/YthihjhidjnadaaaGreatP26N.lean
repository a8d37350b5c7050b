/-
  Contracts of the program's, the model's and the laws' functions, and plain mathematics, on which a proof of this claim stands (part N).
-/
import Derived.Laws.StructEq
import Derived.Lib.SlicesS
import Derived.BigQuiet
import Derived.Deep.RegionHeld3
import Derived.Deep.DeepCutAuto
import Derived.Test.YthihjhidjnadaaaGreatP26A
namespace Go.Proofs.YthihjhidjnadaaaGreat
section
open Go.RowKit
theorem charOk_iff {c : Int} : charOk c = true ↔ (97 ≤ c ∧ c ≤ 122) ∨ (48 ≤ c ∧ c ≤ 57) := by simp [charOk]
theorem charOk_eq {c : Int} {b : Bool} (h : ((97 ≤ c ∧ c ≤ 122) ∨ (48 ≤ c ∧ c ≤ 57)) ↔ b = true) : charOk c = b := by rw [Bool.eq_iff_iff, charOk_iff, h]
theorem isNameByte_any (c : Int) (w : World) : Calls Tryz.prog 236 #[.int .u8 c] w fun e w' => e = .returned (.bool (charOk c)) ∧ w = w' := by
  by_cases h1 : 97 ≤ c
  · by_cases h2 : c ≤ 122
    · rw [charOk_eq (b := true) (by simp; omega)]
      go_enter Tryz.func236, Tryz.ntmps236
      go_wp2
      go_ret
      exact ⟨rfl, rfl⟩
    · rw [charOk_eq (b := false) (by simp; omega)]
      have h3 : 48 ≤ c := by omega
      have h4 : ¬ c ≤ 57 := by omega
      go_enter Tryz.func236, Tryz.ntmps236
      go_wp2
      go_ret
      exact ⟨rfl, rfl⟩
  · by_cases h3 : 48 ≤ c
    · rw [charOk_eq (b := decide (c ≤ 57)) (by simp; omega)]
      go_enter Tryz.func236, Tryz.ntmps236
      go_wp2
      go_ret
      exact ⟨rfl, rfl⟩
    · rw [charOk_eq (b := false) (by simp; omega)]
      go_enter Tryz.func236, Tryz.ntmps236
      go_wp2
      go_ret
      exact ⟨rfl, rfl⟩
theorem all_char_succ {xs : List Int} {k : Nat} (hk : k < xs.length) (h : (xs.take k).all charOk = true) (hx : charOk (xs.getD k 0) = true) : (xs.take (k + 1)).all charOk = true := by
  rw [take_succ' xs k hk, List.all_append, h]; simp [-List.getD_eq_getElem?_getD, hx]
theorem all_char_no {xs : List Int} {k : Nat} (hk : k < xs.length) (hx : charOk (xs.getD k 0) = false) : xs.all charOk = false := by
  rw [List.all_eq_false]
  refine ⟨xs[k], List.getElem_mem hk, ?_⟩
  rw [List.getD, List.getElem?_eq_getElem hk] at hx
  simpa using hx
theorem nameOk_no {s : ByteArray} (h : (nums s).all charOk = false) : nameOk s = false := by unfold nameOk; rw [h]; rfl
theorem nameOk_size {s : ByteArray} (h : (nums s).all charOk = true) : nameOk s = (decide (1 ≤ s.size) && decide (s.size ≤ 6)) := by unfold nameOk; rw [h]; rfl
theorem nameOk_short {s : ByteArray} (h : s.size < 1 ∨ 6 < s.size) : nameOk s = false := by
  unfold nameOk
  have : (decide (1 ≤ s.size) && decide (s.size ≤ 6)) = false := by rw [Bool.and_eq_false_iff, decide_eq_false_iff_not, decide_eq_false_iff_not]; omega
  rw [this, Bool.and_false]
theorem isNodeName_any (s : ByteArray) (w : World) (hn : s.size ≤ 1048576) : Calls Tryz.prog 209 #[.string s] w fun e w' => e = .returned (.bool (nameOk s)) ∧ w = w' := by
  by_cases h0 : s.size = 0
  · rw [nameOk_short (by omega)]
    have h0' : ((s.size : Int) == 0) = true := by rw [beq_iff_eq]; omega
    go_enter Tryz.func209, Tryz.ntmps209
    go_wp2
    go_ret
    exact ⟨rfl, rfl⟩
  have h0' : ((s.size : Int) == 0) = false := by rw [beq_eq_false_iff_ne]; omega
  by_cases h6 : 6 < s.size
  · rw [nameOk_short (by omega)]
    have h6' : (6 : Int) < (s.size : Int) := by omega
    clear h0 h6
    go_enter Tryz.func209, Tryz.ntmps209
    go_wp2
    go_ret
    exact ⟨rfl, rfl⟩
  have h6' : ¬ (6 : Int) < (s.size : Int) := by omega
  have h6d : decide ((6 : Int) < (s.size : Int)) = false := by simp; omega
  have hyes : (nums s).all charOk = true → nameOk s = true := fun h => by rw [nameOk_size h]; simp; omega
  have HY := Lib.hid hyes; clear hyes
  have hnl := nums_len s
  have HNL := Lib.hid hnl; clear hnl h0 h6
  go_enter Tryz.func209, Tryz.ntmps209
  go_wp2
  go_loopw [14] (fun i wr => ∃ k : Nat, k ≤ s.size ∧ i = .int .i64 k ∧ wr = w ∧ Hid (((nums s).take k).all charOk = true)) (fun i _ => s.size - (intOf i).toNat)
  case atStart => exact ⟨0, Nat.zero_le _, rfl, rfl, rfl⟩
  case round =>
    obtain ⟨k, hk, rfl, rfl, hall⟩ := hrel
    by_cases hlt : k < s.size
    · have hkn : k < (nums s).length := by rw [HNL.out]; exact hlt
      have hng := nums_getD s k hlt
      obtain ⟨c, hc⟩ : ∃ c : Int, ((s[k]'hlt).toNat : Int) = c := ⟨_, rfl⟩
      rw [hc] at hng
      have HNG := Lib.hid hng; clear hng
      have HKN := Lib.hid hkn; clear hkn
      rcases hcc : charOk c with _ | _
      · have hfin := nameOk_no (all_char_no HKN.out (by rw [HNG.out]; exact hcc))
        have HF := Lib.hid hfin; clear hfin
        go_wp2_with (go_at_call 236; refine (isNameByte_any _ _).mono ?_; rintro e w' ⟨rfl, rfl⟩; rw [hcc])
        go_ret
        rw [HF.out]
        exact ⟨rfl, rfl⟩
      · have hs := all_char_succ HKN.out hall.out (by rw [HNG.out]; exact hcc)
        have HS := Lib.hid hs; clear hs
        go_wp2_with (go_at_call 236; refine (isNameByte_any _ _).mono ?_; rintro e w' ⟨rfl, rfl⟩; rw [hcc])
        go_roundw
        case rel => exact ⟨k + 1, by omega, by go_num, trivial, HS.out⟩
        case measure => simp [intOf]; omega
    · have hkn : k = s.size := by omega
      subst hkn
      go_wp2
      go_ret
      rw [HY.out (by have := hall.out; rwa [List.take_of_length_le (by rw [HNL.out]; exact Nat.le_refl _)] at this)]
      exact ⟨rfl, rfl⟩
theorem l10Name_any (s : ByteArray) (w : World) (hn : s.size ≤ 1048576) : Calls Tryz.prog 239 #[.string s] w fun e w' => e = .returned (.bool (nameOk s)) ∧ w = w' := by
  have hnl := nums_len s
  have HNL := Lib.hid hnl; clear hnl
  go_enter Tryz.func239, Tryz.ntmps239
  go_wp2
  go_loopw [3] (fun i wr => ∃ k : Nat, k ≤ s.size ∧ i = .int .i64 k ∧ wr = w ∧ Hid (((nums s).take k).all charOk = true)) (fun i _ => s.size - (intOf i).toNat)
  case atStart => exact ⟨0, Nat.zero_le _, rfl, rfl, rfl⟩
  case round =>
    obtain ⟨k, hk, rfl, rfl, hall⟩ := hrel
    by_cases hlt : k < s.size
    · have hkn : k < (nums s).length := by rw [HNL.out]; exact hlt
      have hng := nums_getD s k hlt
      obtain ⟨c, hc⟩ : ∃ c : Int, ((s[k]'hlt).toNat : Int) = c := ⟨_, rfl⟩
      rw [hc] at hng
      have HNG := Lib.hid hng; clear hng
      have HKN := Lib.hid hkn; clear hkn
      have hno : charOk c = false → nameOk s = false := fun h => nameOk_no (all_char_no HKN.out (by rw [HNG.out]; exact h))
      have hyes : charOk c = true → ((nums s).take (k + 1)).all charOk = true := fun h => all_char_succ HKN.out hall.out (by rw [HNG.out]; exact h)
      have HN := Lib.hid hno; clear hno
      have HY := Lib.hid hyes; clear hyes
      by_cases h1 : c < 97
      · by_cases h3 : c < 48
        · have HF := Lib.hid (HN.out (charOk_eq (by simp; omega)))
          go_wp2
          go_ret
          rw [HF.out]
          exact ⟨rfl, rfl⟩
        · by_cases h4 : 57 < c
          · have HF := Lib.hid (HN.out (charOk_eq (by simp; omega)))
            go_wp2
            go_ret
            rw [HF.out]
            exact ⟨rfl, rfl⟩
          · have HF := Lib.hid (HY.out (charOk_eq (by simp; omega)))
            go_wp2
            go_roundw
            case rel => exact ⟨k + 1, by omega, by go_num, trivial, HF.out⟩
            case measure => simp [intOf]; omega
      · by_cases h2 : 122 < c
        · have h3 : ¬ c < 48 := by omega
          have h4 : 57 < c := by omega
          have HF := Lib.hid (HN.out (charOk_eq (by simp; omega)))
          go_wp2
          go_ret
          rw [HF.out]
          exact ⟨rfl, rfl⟩
        · have HF := Lib.hid (HY.out (charOk_eq (by simp; omega)))
          go_wp2
          go_roundw
          case rel => exact ⟨k + 1, by omega, by go_num, trivial, HF.out⟩
          case measure => simp [intOf]; omega
    · have hkn : k = s.size := by omega
      subst hkn
      have hfin := nameOk_size (by have := hall.out; rwa [List.take_of_length_le (by rw [HNL.out]; exact Nat.le_refl _)] at this)
      by_cases h1 : 1 ≤ s.size
      · by_cases h6 : s.size ≤ 6
        · have h1' : (1 : Int) ≤ (s.size : Int) := by omega
          have h6' : (s.size : Int) ≤ 6 := by omega
          have HF := Lib.hid hfin; clear hfin
          go_wp2
          go_ret
          rw [HF.out]
          exact ⟨ret_bool (by simp; omega), rfl⟩
        · have h1' : (1 : Int) ≤ (s.size : Int) := by omega
          have h6' : ¬ (s.size : Int) ≤ 6 := by omega
          have HF := Lib.hid hfin; clear hfin
          go_wp2
          go_ret
          rw [HF.out]
          exact ⟨ret_bool (by simp; omega), rfl⟩
      · have h1' : ¬ (1 : Int) ≤ (s.size : Int) := by omega
        have HF := Lib.hid hfin; clear hfin
        go_wp2
        go_ret
        rw [HF.out]
        exact ⟨ret_bool (by simp; omega), rfl⟩
theorem isNd_split (x : Nd) : isNd x = (isNode x.id && (nameOk x.name && (decide (0 ≤ x.drift) && decide (x.drift ≤ 1000)))) := rfl
theorem isNodeInfo_any (x : Nd) (w : World) (hn : x.name.size ≤ 1048576) : Calls Tryz.prog 177 #[ndVal x] w fun e w' => e = .returned (.bool (isNd x)) ∧ Below w.heap.size w w' := by
  obtain ⟨d, s, f, p⟩ := x
  have hs := isNd_split ⟨d, s, f, p⟩
  simp only at hs hn
  unfold ndVal
  simp only
  rcases h1 : isNode d with _ | _
  · rw [h1, Bool.false_and] at hs
    rw [hs]; clear hs
    go_enter Tryz.func177, Tryz.ntmps177
    go_wp2_with (go_at_call 149; refine (isNode_any _ _).mono ?_; rintro e w' ⟨rfl, rfl⟩; rw [h1])
    go_ret
    exact ⟨rfl, (Below.refl _ _).alloc (Nat.le_refl _) _⟩
  rcases h2 : nameOk s with _ | _
  · rw [h1, h2, Bool.false_and, Bool.and_false] at hs
    rw [hs]; clear hs
    go_enter Tryz.func177, Tryz.ntmps177
    go_wp2_with (first
      | (go_at_call 149; refine (isNode_any _ _).mono ?_; rintro e w' ⟨rfl, rfl⟩; rw [h1])
      | (go_at_call 209; refine (isNodeName_any _ _ hn).mono ?_; rintro e w' ⟨rfl, rfl⟩; rw [h2]))
    go_ret
    exact ⟨rfl, (Below.refl _ _).alloc (Nat.le_refl _) _⟩
  rw [h1, h2, Bool.true_and, Bool.true_and] at hs
  by_cases h3 : 0 ≤ f
  · rw [hs]; clear hs
    have h3d : decide (0 ≤ f) = true := decide_eq_true h3
    rw [h3d, Bool.true_and]; clear h3d
    go_enter Tryz.func177, Tryz.ntmps177
    go_wp2_with (first
      | (go_at_call 149; refine (isNode_any _ _).mono ?_; rintro e w' ⟨rfl, rfl⟩; rw [h1])
      | (go_at_call 209; refine (isNodeName_any _ _ hn).mono ?_; rintro e w' ⟨rfl, rfl⟩; rw [h2]))
    go_ret
    exact ⟨rfl, (Below.refl _ _).alloc (Nat.le_refl _) _⟩
  · have h3d : decide (0 ≤ f) = false := decide_eq_false h3
    rw [h3d, Bool.false_and] at hs
    rw [hs]; clear hs h3d
    go_enter Tryz.func177, Tryz.ntmps177
    go_wp2_with (first
      | (go_at_call 149; refine (isNode_any _ _).mono ?_; rintro e w' ⟨rfl, rfl⟩; rw [h1])
      | (go_at_call 209; refine (isNodeName_any _ _ hn).mono ?_; rintro e w' ⟨rfl, rfl⟩; rw [h2]))
    go_ret
    exact ⟨rfl, (Below.refl _ _).alloc (Nat.le_refl _) _⟩
theorem sIsNodeInfo_any (x : Nd) (w : World) (hn : x.name.size ≤ 1048576) : Calls Tryz.prog 214 #[ndVal x] w fun e w' => e = .returned (.bool (isNd x)) ∧ Below w.heap.size w w' := by
  obtain ⟨d, s, f, p⟩ := x
  have hs := isNd_split ⟨d, s, f, p⟩
  simp only at hs hn
  unfold ndVal
  simp only
  rcases h1 : isNode d with _ | _
  · rw [h1, Bool.false_and] at hs
    rw [hs]; clear hs
    go_enter Tryz.func214, Tryz.ntmps214
    go_wp2_with (go_at_call 238; refine (l05Node_any _ _).mono ?_; rintro e w' ⟨rfl, rfl⟩; rw [h1])
    go_ret
    exact ⟨rfl, (Below.refl _ _).alloc (Nat.le_refl _) _⟩
  rcases h2 : nameOk s with _ | _
  · rw [h1, h2, Bool.false_and, Bool.and_false] at hs
    rw [hs]; clear hs
    go_enter Tryz.func214, Tryz.ntmps214
    go_wp2_with (first
      | (go_at_call 238; refine (l05Node_any _ _).mono ?_; rintro e w' ⟨rfl, rfl⟩; rw [h1])
      | (go_at_call 239; refine (l10Name_any _ _ hn).mono ?_; rintro e w' ⟨rfl, rfl⟩; rw [h2]))
    go_ret
    exact ⟨rfl, (Below.refl _ _).alloc (Nat.le_refl _) _⟩
  rw [h1, h2, Bool.true_and, Bool.true_and] at hs
  rw [hs]; clear hs
  go_enter Tryz.func214, Tryz.ntmps214
  go_wp2_with (first
    | (go_at_call 238; refine (l05Node_any _ _).mono ?_; rintro e w' ⟨rfl, rfl⟩; rw [h1])
    | (go_at_call 239; refine (l10Name_any _ _ hn).mono ?_; rintro e w' ⟨rfl, rfl⟩; rw [h2])
    | (go_at_call 180; refine (in_any _ _ _ _).mono ?_; rintro e w' ⟨rfl, rfl⟩))
  go_ret
  exact ⟨rfl, (Below.refl _ _).alloc (Nat.le_refl _) _⟩
theorem toNode_any (x : Nd) (w : World) : Calls Tryz.prog 153 #[ndVal x] w fun e w' => e = .returned (ndVal x) ∧ Below w.heap.size w w' := by
  unfold ndVal
  go_enter Tryz.func153, Tryz.ntmps153
  go_wp2
  exact bodyPost_ret (v := .agg #[.int .i64 x.id, .string x.name, .int .i64 x.drift, .bool x.pas]) (by simp [results, Tryz.results153, go_sem]) rfl ⟨rfl, (((Below.refl _ _).alloc (Nat.le_refl _) _).alloc (by simp) _).alloc (by simp; omega) _⟩
theorem eqNode_yes (x : Nd) (w : World) : Calls Tryz.prog 156 #[ndVal x, ndVal x] w fun e w' => e = .returned (.bool true) ∧ Below w.heap.size w w' := by
  unfold ndVal
  have h0 : (x.id != x.id) = false := by simp
  have h2 : (x.drift != x.drift) = false := by simp
  have h3 : (x.pas != x.pas) = false := by simp
  go_enter Tryz.func156, Tryz.ntmps156
  go_wp2
  go_ret
  exact ⟨rfl, ((Below.refl _ _).alloc (Nat.le_refl _) _).alloc (by simp) _⟩
theorem szNode_any (x : Nd) (m : Int) (w : World) (h0 : 0 ≤ m) (h1 : m ≤ 1048576) (hn : (x.name.size : Int) ≤ 9223372036854775807) : Calls Tryz.prog 151 #[ndVal x, .int .i64 m] w fun e w' => e = .returned (.int .i64 (if m < x.name.size then -1 else m - x.name.size)) ∧ Below w.heap.size w w' := by
  unfold ndVal
  by_cases h : m < x.name.size
  · rw [if_pos h]
    have hq : m - (x.name.size : Int) < 0 := by omega
    go_enter Tryz.func151, Tryz.ntmps151
    go_wp2
    go_ret
    exact ⟨rfl, (Below.refl _ _).alloc (Nat.le_refl _) _⟩
  · rw [if_neg h]
    have hq : ¬ m - (x.name.size : Int) < 0 := by omega
    go_enter Tryz.func151, Tryz.ntmps151
    go_wp2
    go_ret
    exact ⟨ret_int (by omega), (Below.refl _ _).alloc (Nat.le_refl _) _⟩
end

section
open Go.RowKit
theorem hmfunc : ∀ (fn : Fn) (first cap : Array Value) (w : World), (Instr.makeFunc fn first cap).run Tryz.prog w = .ok (.func fn first cap) w := fun _ _ _ _ => rfl
def hasNm (t : List Nd) (s : ByteArray) : Bool := t.any fun x => decide (x.name = s)
theorem ndOf_getD (t : List Nd) (k : Nat) (h : k < t.length) : t.take (k + 1) = t.take k ++ [ndOf t k] := by
  rw [List.take_add_one, List.getElem?_eq_getElem h, ndOf_get h]; rfl
theorem hasNm_succ {t : List Nd} {s : ByteArray} {k : Nat} (h : k < t.length) (h1 : hasNm (t.take k) s = false) (h2 : decide ((ndOf t k).name = s) = false) : hasNm (t.take (k + 1)) s = false := by
  unfold hasNm at h1 ⊢
  rw [ndOf_getD t k h, List.any_append, h1]
  simp only [List.any_cons, List.any_nil, h2, Bool.or_false]
theorem hasNm_yes {t : List Nd} {s : ByteArray} {k : Nat} (h : k < t.length) (h2 : decide ((ndOf t k).name = s) = true) : hasNm t s = true := by
  unfold hasNm
  rw [List.any_eq_true]
  exact ⟨ndOf t k, ndOf_mem h, h2⟩
theorem hasNm1_any (b : Nat) (s : ByteArray) (x : Nd) (w : World) (hc : w.cell? ⟨b, 0, none⟩ = some (.string s)) :
    Calls Tryz.prog 211 #[ndVal x, .pointer (some ⟨b, 0, none⟩)] w fun e w' => e = .returned (.bool (decide (x.name = s))) ∧ Below w.heap.size w w' := by
  have hb := Lib.bytes_beq_iff x.name s
  have hlt : b < w.heap.size := World.block_lt_of_cell? w _ hc
  have hc2 := fun o => World.cell?_alloc_old w o ⟨b, 0, none⟩ (Nat.ne_of_lt hlt)
  unfold ndVal
  have hd : (x.name.toList == s.toList) = decide (x.name = s) := by rw [Bool.eq_iff_iff, hb, decide_eq_true_eq]
  clear hb
  go_enter Tryz.func211, Tryz.ntmps211
  go_wp2
  go_ret
  exact ⟨rfl, (Below.refl _ _).alloc (Nat.le_refl _) _⟩
theorem indexNd_any (ao : Option Addr) (n cap b : Nat) (t : List Nd) (s : ByteArray) (w : World) (hr : RdN w ao n t) (hn : n ≤ 9223372036854775807) (hcs : w.cell? ⟨b, 0, none⟩ = some (.string s)) :
    Calls Tryz.prog 237 #[.slice ao n cap, .func (.func 211) #[] #[.pointer (some ⟨b, 0, none⟩)]] w fun e w' => ∃ r : Int, e = .returned (.int .i64 r) ∧ -1 ≤ r ∧ decide (0 ≤ r) = hasNm t s ∧ Below w.heap.size w w' := by
  have HL := Lib.hid hr.len
  have HR := Lib.hid hr; clear hr
  have hlt0 : b < w.heap.size := World.block_lt_of_cell? w _ hcs
  have HC := Lib.hid hcs; clear hcs
  go_enter Tryz.func237, Tryz.ntmps237
  go_wp2
  go_loopw [8] (fun i wr => ∃ k : Nat, k ≤ n ∧ i = .int .i64 k ∧ Below w.heap.size w wr ∧ Hid (hasNm (t.take k) s = false)) (fun i _ => n - (intOf i).toNat)
  case atStart => exact ⟨0, Nat.zero_le _, rfl, Below.refl _ _, rfl⟩
  case round =>
    obtain ⟨k, hk, rfl, hb, hall⟩ := hrel
    by_cases hlt : k < n
    · obtain ⟨g, off, rfl, hg, hx⟩ := HR.out.at hlt
      replace hx := hx.below hb hg
      have hcs := (hb.cell (p := ⟨b, 0, none⟩) hlt0).trans HC.out
      have hkt : k < t.length := by rw [HL.out]; exact hlt
      have HKT := Lib.hid hkt; clear hkt
      have HB := Lib.hid hb; clear hb
      obtain ⟨x, hxe⟩ : ∃ x, x = ndOf t k := ⟨_, rfl⟩
      rw [← hxe] at hx
      have hno : decide (x.name = s) = false → hasNm (t.take (k + 1)) s = false := fun h => hasNm_succ HKT.out hall.out (by rw [← hxe]; exact h)
      have hyes : decide (x.name = s) = true → hasNm t s = true := fun h => hasNm_yes HKT.out (by rw [← hxe]; exact h)
      have HN := Lib.hid hno; have HY := Lib.hid hyes; clear hno hyes hxe
      obtain ⟨h0, h1, h2, h3⟩ := hx
      have hcall := hasNm1_any b s x wr hcs
      unfold ndVal at hcall
      have HCALL := Lib.hid hcall; clear hcall hcs
      rcases hd : decide (x.name = s) with _ | _
      · go_wp2_with (go_at_call 211; refine HCALL.out.mono ?_; rintro e w1 ⟨rfl, b1⟩; rw [hd])
        go_roundw
        case rel => exact ⟨k + 1, by omega, by go_num, below_two HB.out b1, HN.out hd⟩
        case measure => simp [intOf]; omega
      · go_wp2_with (go_at_call 211; refine HCALL.out.mono ?_; rintro e w1 ⟨rfl, b1⟩; rw [hd])
        go_ret
        exact ⟨_, rfl, by omega, by rw [HY.out hd]; simp, below_two HB.out b1⟩
    · have hkn : k = n := by omega
      subst hkn
      have HB := Lib.hid hb; clear hb
      go_wp2
      go_ret
      exact ⟨_, rfl, by omega, by have := hall.out; rw [List.take_of_length_le (by rw [HL.out]; exact Nat.le_refl _)] at this; rw [this]; rfl, HB.out⟩
theorem hasName_any (ao : Option Addr) (n cap : Nat) (t : List Nd) (s : ByteArray) (w : World) (hr : RdN w ao n t) (hn : n ≤ 9223372036854775807) :
    Calls Tryz.prog 178 #[.slice ao n cap, .string s] w fun e w' => e = .returned (.bool (hasNm t s)) ∧ Below w.heap.size w w' := by
  have hmf := hmfunc
  have HR := Lib.hid (hr.below ((Below.refl _ _).alloc (Nat.le_refl _) (.cells #[.string s] 9))); clear hr
  have hcon : ∀ (w1 : World) (b : Nat), RdN w1 ao n t → w1.cell? ⟨b, 0, none⟩ = some (.string s) → Calls Tryz.prog 210 #[.slice ao n cap, .func (.func 211) #[] #[.pointer (some ⟨b, 0, none⟩)]] w1 fun e w' => e = .returned (.bool (hasNm t s)) ∧ Below w1.heap.size w1 w' := by
    intro w1 b hr1 hc1
    have hcall := Lib.hid (indexNd_any ao n cap b t s w1 hr1 hn hc1)
    clear hr1 hc1 HR hmf
    go_enter Tryz.func210, Tryz.ntmps210
    go_wp2_with fail
    refine hcall.out.mono ?_
    rintro e w2 ⟨r, rfl, -, hd, b2⟩
    go_wp2
    go_ret
    exact ⟨ret_bool (by rw [← hd]), b2⟩
  have HCON := Lib.hid hcon; clear hcon
  go_enter Tryz.func178, Tryz.ntmps178
  go_wp2_with fail
  refine (HCON.out _ _ HR.out (new_cell rfl)).mono ?_
  rintro e w2 ⟨rfl, b2⟩
  go_wp2
  go_ret
  exact ⟨rfl, ((Below.refl _ _).alloc (Nat.le_refl _) _).trans (b2.mono (by simp))⟩
end

section
open Go.RowKit
def lastId (t : List Nd) : Nat → Int
  | 0 => -1
  | k + 1 => (ndOf t k).id
theorem up_eq {t : List Nd} {k : Nat} (h : isNd (ndOf t k) = true) : decide ((ndOf t k).id ≤ lastId t k) = !upOk t k := by
  have h1 := (isNd_iff.1 h).1
  cases k with
  | zero => rw [show upOk t 0 = true from rfl, Bool.not_true, decide_eq_false_iff_not]; show ¬ (ndOf t 0).id ≤ -1; omega
  | succ k =>
    have e : upOk t (k + 1) = decide ((ndOf t k).id < (ndOf t (k + 1)).id) := by simp [upOk]
    show decide ((ndOf t (k + 1)).id ≤ (ndOf t k).id) = !upOk t (k + 1)
    rw [e, ← decide_not, decide_eq_decide]; omega
theorem new_eq {t : List Nd} {k : Nat} (h : k ≤ t.length) : hasNm (t.take k) (ndOf t k).name = !newName t k := by
  rw [Bool.eq_iff_iff]
  unfold hasNm newName
  rw [List.any_eq_true, Bool.not_eq_true', List.all_eq_false]
  constructor
  · rintro ⟨x, hx, he⟩
    obtain ⟨i, hi, rfl⟩ := mem_ndOf hx
    rw [List.length_take] at hi
    rw [ndOf_take (by omega)] at he
    exact ⟨i, List.mem_range.2 (by omega), by simpa using he⟩
  · rintro ⟨i, hi, he⟩
    have hi := List.mem_range.1 hi
    refine ⟨ndOf t i, ?_, by simpa using he⟩
    rw [← ndOf_take (k := k) hi]
    exact ndOf_mem (by rw [List.length_take]; omega)
theorem entry_nd {t : List Nd} {k : Nat} (h : isNd (ndOf t k) = false) : entryOk t k = false := by unfold entryOk; rw [h]; rfl
theorem entry_up {t : List Nd} {k : Nat} (h : isNd (ndOf t k) = true) (h2 : (ndOf t k).id ≤ lastId t k) : entryOk t k = false := by
  have h3 := up_eq h
  rw [decide_eq_true h2] at h3
  unfold entryOk; rw [show upOk t k = false from by simpa using h3.symm]; simp
theorem entry_new {t : List Nd} {k : Nat} (hk : k ≤ t.length) (h2 : hasNm (t.take k) (ndOf t k).name = true) : entryOk t k = false := by
  rw [new_eq hk] at h2
  unfold entryOk; rw [show newName t k = false from by simpa using h2]; simp
theorem entry_yes {t : List Nd} {k : Nat} (hk : k ≤ t.length) (h : isNd (ndOf t k) = true) (h1 : ¬ (ndOf t k).id ≤ lastId t k) (h2 : hasNm (t.take k) (ndOf t k).name = false) : entryOk t k = true := by
  have h3 := up_eq h
  rw [decide_eq_false h1] at h3
  rw [new_eq hk] at h2
  unfold entryOk; rw [h, show upOk t k = true from by simpa using h3.symm, show newName t k = true from by simpa using h2]; rfl
def okTo (t : List Nd) (k : Nat) : Prop := ∀ i, i < k → entryOk t i = true
theorem okTo_zero (t : List Nd) : okTo t 0 := fun i h => absurd h (by omega)
theorem okTo_succ {t : List Nd} {k : Nat} (h : okTo t k) (h1 : entryOk t k = true) : okTo t (k + 1) := fun i hi => by
  by_cases e : i = k
  · subst e; exact h1
  · exact h i (by omega)
theorem table_no {t : List Nd} {k : Nat} (hk : k < t.length) (h : entryOk t k = false) : isTable t = false := by
  rw [Bool.eq_false_iff]
  intro hc
  rw [(isTable_iff.1 hc).2 k hk] at h
  cases h
theorem ok_ids {t : List Nd} (h : okTo t t.length) : ∀ k, k < t.length → (k : Int) ≤ (ndOf t k).id
  | 0, hk => by have := (isNd_iff.1 (entryOk_iff.1 (h 0 hk)).1).1; simpa using this.1
  | k + 1, hk => by
    have h1 := ok_ids h k (by omega)
    have h2 := (entryOk_iff.1 (h (k + 1) hk)).2.1
    simp [upOk] at h2
    omega
theorem ok_len {t : List Nd} (h : okTo t t.length) : t.length ≤ 32 := by
  by_cases h0 : t.length = 0
  · omega
  · have h1 := ok_ids h (t.length - 1) (by omega)
    have h2 := (isNd_iff.1 (entryOk_iff.1 (h (t.length - 1) (by omega))).1).1
    omega
theorem table_len {t : List Nd} (h : okTo t t.length) : isTable t = decide (0 < t.length) := by
  rw [Bool.eq_iff_iff, isTable_iff, decide_eq_true_eq]
  exact ⟨fun h1 => h1.1.1, fun h1 => ⟨⟨h1, ok_len h⟩, h⟩⟩
set_option linter.unusedSimpArgs false in
set_option maxHeartbeats 2000000 in
set_option maxRecDepth 100000 in
set_option linter.unusedSimpArgs false in
theorem isTable_any (ao : Option Addr) (n cap : Nat) (t : List Nd) (w : World) (hr : RdN w ao n t) (hn : n ≤ cap) (hcap : cap ≤ 9223372036854775807) (hs : smallN t) :
    Calls Tryz.prog 139 #[.slice ao n cap] w fun e w' => e = .returned (.bool (isTable t)) ∧ Below w.heap.size w w' := by
  have HL := Lib.hid hr.len
  have HS := Lib.hid hs; clear hs
  have HR := Lib.hid hr; clear hr
  go_enter Tryz.func139, Tryz.ntmps139
  go_wp2_with fail
  go_loopw [3, 8] (fun bf i wr => ∃ k : Nat, k ≤ n ∧ i = .int .i64 k ∧ bf = .int .i64 (lastId t k) ∧ Below w.heap.size w wr ∧ Hid (okTo t k)) (fun _ i _ => n - (intOf i).toNat)
  case atStart => exact ⟨0, Nat.zero_le _, rfl, rfl, Below.refl _ _, okTo_zero t⟩
  case round =>
    obtain ⟨k, hk, rfl, rfl, hb, hall⟩ := hrel
    by_cases hlt : k < n
    · obtain ⟨g, off, rfl, hg, hx⟩ := HR.out.at hlt
      replace hx := hx.below hb hg
      have hkt : k < t.length := by rw [HL.out]; exact hlt
      have hsz := HS.out k hkt
      have HRb := Lib.hid ((HR.out.below hb).take (k := k) (by omega)); clear HR
      have hno : entryOk t k = false → isTable t = false := table_no hkt
      have hyes : entryOk t k = true → okTo t (k + 1) ∧ lastId t (k + 1) = (ndOf t k).id := fun h => ⟨okTo_succ hall.out h, rfl⟩
      have e1 := entry_nd (t := t) (k := k)
      have e2 := entry_up (t := t) (k := k)
      have e3 := entry_new (t := t) (k := k) (by omega)
      have e4 := entry_yes (t := t) (k := k) (by omega)
      obtain ⟨x, hxe⟩ : ∃ x, x = ndOf t k := ⟨_, rfl⟩
      obtain ⟨y, hye⟩ : ∃ y, y = lastId t k := ⟨_, rfl⟩
      obtain ⟨y', hye'⟩ : ∃ y, y = lastId t (k + 1) := ⟨_, rfl⟩
      rw [← hxe] at hx hsz e1 e2 e3 e4 hyes
      rw [← hye] at e2 e4 ⊢
      rw [← hye'] at hyes
      have HSZ := Lib.hid hsz
      have HNO := Lib.hid hno; have HYES := Lib.hid hyes; have E1 := Lib.hid e1; have E2 := Lib.hid e2; have E3 := Lib.hid e3; have E4 := Lib.hid e4; have HYE := Lib.hid hye'
      clear hno hyes e1 e2 e3 e4 hye hxe hkt hsz hye'
      have HALL := Lib.hid hall; clear hall
      have HB0 := Lib.hid hb; clear hb
      obtain ⟨h0, h1, h2, h3⟩ := hx
      go_upto_region 5 with fail
      have hat := NdAt.new (T := 130) (x := x) wr
      have hbb : Below wr.heap.size wr (wr.alloc (.cells #[.int .i64 x.id, .string x.name, .int .i64 x.drift, .bool x.pas] 130)) := (Below.refl _ _).alloc (Nat.le_refl _) _
      have HB1 := Lib.hid (below_two HB0.out hbb)
      have HR1 := Lib.hid (HRb.out.below hbb)
      have hbl : wr.heap.size < (wr.alloc (.cells #[.int .i64 x.id, .string x.name, .int .i64 x.drift, .bool x.pas] 130)).heap.size := hat.lt
      clear h0 h1 h2 h3 hbb HB0 HRb
      generalize wr.heap.size = b at hat hbl ⊢
      generalize wr.alloc (.cells #[.int .i64 x.id, .string x.name, .int .i64 x.drift, .bool x.pas] 130) = w1 at hat hbl HB1 HR1 ⊢
      have HAT := Lib.hid hat; have HBL := Lib.hid hbl; clear hat hbl
      have hcall := fun W => isNodeInfo_any x W HSZ.out
      unfold ndVal at hcall
      have HCALL := Lib.hid hcall; clear hcall
      have hkc : (k : Int) ≤ (cap : Int) := by omega
      have hk0 : (0 : Int) ≤ (k : Int) := by omega
      obtain ⟨xi, xn, xf, xp⟩ := x
      dsimp only at *
      rcases hnd : isNd ⟨xi, xn, xf, xp⟩ with _ | _
      · have HF := Lib.hid (HNO.out (E1.out hnd))
        refine wp_region_held_drew (S := fun w' => w'.cell? ⟨b, 0, none⟩ = some (.int .i64 xi) ∧ w'.cell? ⟨b, 1, none⟩ = some (.string xn) ∧ w'.cell? ⟨b, 2, none⟩ = some (.int .i64 xf) ∧ w'.cell? ⟨b, 3, none⟩ = some (.bool xp)) (by kernel_rfl) (⟨(HAT.out).in_.c0, (HAT.out).in_.c1, (HAT.out).in_.c2, (HAT.out).in_.c3⟩) (fun hHeld => ?_)
        refine tk (i := 0) (v := ?_) rfl (Or.inl ⟨by rfl, ?_⟩) (by assumption) ?_
        rotate_left
        · (intro w hSw; (try dsimp only at hSw); go_simp; (try with_reducible rfl))
        try simp only [pa, pb, pc, Act.put, pe, pf, pg]
        refine wpAnyH_ready (rs := [1]) (by kernel_rfl) (by simp) (AllReadyH.cons rfl (fun K hK => ?_) AllReadyH.nil)
        go_simp
        refine (HCALL.out _).mono ?_
        rintro e w2 ⟨rfl, b2⟩
        rw [hnd]
        replace b2 := below_two (Below.drew (Below.refl w1.heap.size w1)) b2
        have HAT2 := Lib.hid (HAT.out.below b2 HBL.out)
        have HB2 := Lib.hid (below_two HB1.out b2)
        clear b2
        go_wp2_with fail
        refine hK.out _ _ ?_ (fun hHeld => ?_)
        · exact ⟨(HAT2.out).in_.c0, (HAT2.out).in_.c1, (HAT2.out).in_.c2, (HAT2.out).in_.c3⟩
        clear hK K
        try simp only [pa, pb, pc, Act.put, pe, pf, pg]
        refine tk (i := 2) (v := ?_) rfl (Or.inl ⟨by rfl, ?_⟩) (by assumption) ?_
        rotate_left
        · (intro w hSw; (try dsimp only at hSw); go_simp; (try with_reducible rfl))
        try simp only [pa, pb, pc, Act.put, pe, pf, pg]
        refine tk (i := 3) (v := ?_) rfl (Or.inl ⟨by rfl, ?_⟩) (by assumption) ?_
        rotate_left
        · (intro w hSw; (try dsimp only at hSw); go_simp; (try with_reducible rfl))
        try simp only [pa, pb, pc, Act.put, pe, pf, pg]
        refine tk (i := 4) (v := undef) rfl (Or.inr ⟨by rfl, rfl⟩) (by assumption) ?_
        try simp only [pa, pb, pc, Act.put, pe, pf, pg]
        refine tk (i := 5) (v := undef) rfl (Or.inr ⟨by rfl, rfl⟩) (by assumption) ?_
        try simp only [pa, pb, pc, Act.put, pe, pf, pg]
        refine tk (i := 6) (v := undef) rfl (Or.inr ⟨by rfl, rfl⟩) (by assumption) ?_
        try simp only [pa, pb, pc, Act.put, pe, pf, pg]
        refine tk (i := 7) (v := undef) rfl (Or.inr ⟨by rfl, rfl⟩) (by assumption) ?_
        try simp only [pa, pb, pc, Act.put, pe, pf, pg]
        refine tk (i := 8) (v := ?_) rfl (Or.inl ⟨by rfl, ?_⟩) (by assumption) ?_
        rotate_left
        · (intro w hSw; (try dsimp only at hSw); go_simp; (try with_reducible rfl))
        try simp only [pa, pb, pc, Act.put, pe, pf, pg]
        refine tk (i := 9) (v := ?_) rfl (Or.inl ⟨by rfl, ?_⟩) (by assumption) ?_
        rotate_left
        · (intro w hSw; (try dsimp only at hSw); go_simp; (try with_reducible rfl))
        try simp only [pa, pb, pc, Act.put, pe, pf, pg]
        refine tk (i := 10) (v := undef) rfl (Or.inr ⟨by rfl, rfl⟩) (by assumption) ?_
        try simp only [pa, pb, pc, Act.put, pe, pf, pg]
        refine tk (i := 11) (v := undef) rfl (Or.inr ⟨by rfl, rfl⟩) (by assumption) ?_
        try simp only [pa, pb, pc, Act.put, pe, pf, pg]
        refine tk (i := 12) (v := undef) rfl (Or.inr ⟨by rfl, rfl⟩) (by assumption) ?_
        try simp only [pa, pb, pc, Act.put, pe, pf, pg]
        refine tk (i := 13) (v := undef) rfl (Or.inr ⟨by rfl, rfl⟩) (by assumption) ?_
        try simp only [pa, pb, pc, Act.put, pe, pf, pg]
        refine tk (i := 14) (v := undef) rfl (Or.inr ⟨by rfl, rfl⟩) (by assumption) ?_
        try simp only [pa, pb, pc, Act.put, pe, pf, pg]
        refine tk (i := 15) (v := undef) rfl (Or.inr ⟨by rfl, rfl⟩) (by assumption) ?_
        try simp only [pa, pb, pc, Act.put, pe, pf, pg]
        refine tk (i := 16) (v := ?_) rfl (Or.inl ⟨by rfl, ?_⟩) (by assumption) ?_
        rotate_left
        · (intro w hSw; (try dsimp only at hSw); go_simp; (try with_reducible rfl))
        try simp only [pa, pb, pc, Act.put, pe, pf, pg]
        refine wpAnyH_done (by kernel_rfl) ?_ _
        go_wp2_with fail
        go_ret
        rw [HF.out]
        exact ⟨rfl, HB2.out⟩
      · by_cases hle : xi ≤ y
        · have HF := Lib.hid (HNO.out (E2.out hnd hle))
          refine wp_region_held_drew (S := fun w' => w'.cell? ⟨b, 0, none⟩ = some (.int .i64 xi) ∧ w'.cell? ⟨b, 1, none⟩ = some (.string xn) ∧ w'.cell? ⟨b, 2, none⟩ = some (.int .i64 xf) ∧ w'.cell? ⟨b, 3, none⟩ = some (.bool xp)) (by kernel_rfl) (⟨(HAT.out).in_.c0, (HAT.out).in_.c1, (HAT.out).in_.c2, (HAT.out).in_.c3⟩) (fun hHeld => ?_)
          refine tk (i := 0) (v := ?_) rfl (Or.inl ⟨by rfl, ?_⟩) (by assumption) ?_
          rotate_left
          · (intro w hSw; (try dsimp only at hSw); go_simp; (try with_reducible rfl))
          try simp only [pa, pb, pc, Act.put, pe, pf, pg]
          refine wpAnyH_ready (rs := [1]) (by kernel_rfl) (by simp) (AllReadyH.cons rfl (fun K hK => ?_) AllReadyH.nil)
          go_simp
          refine (HCALL.out _).mono ?_
          rintro e w2 ⟨rfl, b2⟩
          rw [hnd]
          replace b2 := below_two (Below.drew (Below.refl w1.heap.size w1)) b2
          have HAT2 := Lib.hid (HAT.out.below b2 HBL.out)
          have HB2 := Lib.hid (below_two HB1.out b2)
          clear b2
          go_wp2_with fail
          refine hK.out _ _ ?_ (fun hHeld => ?_)
          · exact ⟨(HAT2.out).in_.c0, (HAT2.out).in_.c1, (HAT2.out).in_.c2, (HAT2.out).in_.c3⟩
          clear hK K
          try simp only [pa, pb, pc, Act.put, pe, pf, pg]
          refine tk (i := 2) (v := ?_) rfl (Or.inl ⟨by rfl, ?_⟩) (by assumption) ?_
          rotate_left
          · (intro w hSw; (try dsimp only at hSw); go_simp; (try with_reducible rfl))
          try simp only [pa, pb, pc, Act.put, pe, pf, pg]
          refine tk (i := 3) (v := ?_) rfl (Or.inl ⟨by rfl, ?_⟩) (by assumption) ?_
          rotate_left
          · (intro w hSw; (try dsimp only at hSw); go_simp; (try with_reducible rfl))
          try simp only [pa, pb, pc, Act.put, pe, pf, pg]
          refine tk (i := 4) (v := ?_) rfl (Or.inl ⟨by rfl, ?_⟩) (by assumption) ?_
          rotate_left
          · (intro w hSw; (try dsimp only at hSw); go_simp; (try with_reducible rfl))
          try simp only [pa, pb, pc, Act.put, pe, pf, pg]
          refine tk (i := 5) (v := ?_) rfl (Or.inl ⟨by rfl, ?_⟩) (by assumption) ?_
          rotate_left
          · (intro w hSw; (try dsimp only at hSw); go_simp; (try with_reducible rfl))
          try simp only [pa, pb, pc, Act.put, pe, pf, pg]
          refine tk (i := 6) (v := ?_) rfl (Or.inl ⟨by rfl, ?_⟩) (by assumption) ?_
          rotate_left
          · (intro w hSw; (try dsimp only at hSw); go_simp; (try with_reducible rfl))
          try simp only [pa, pb, pc, Act.put, pe, pf, pg]
          refine tk (i := 7) (v := ?_) rfl (Or.inl ⟨by rfl, ?_⟩) (by assumption) ?_
          rotate_left
          · (intro w hSw; (try dsimp only at hSw); go_simp; (try with_reducible rfl))
          try simp only [pa, pb, pc, Act.put, pe, pf, pg]
          refine tk (i := 8) (v := ?_) rfl (Or.inl ⟨by rfl, ?_⟩) (by assumption) ?_
          rotate_left
          · (intro w hSw; (try dsimp only at hSw); go_simp; (try with_reducible rfl))
          try simp only [pa, pb, pc, Act.put, pe, pf, pg]
          refine tk (i := 9) (v := ?_) rfl (Or.inl ⟨by rfl, ?_⟩) (by assumption) ?_
          rotate_left
          · (intro w hSw; (try dsimp only at hSw); go_simp; (try with_reducible rfl))
          try simp only [pa, pb, pc, Act.put, pe, pf, pg]
          refine tk (i := 10) (v := undef) rfl (Or.inr ⟨by rfl, rfl⟩) (by assumption) ?_
          try simp only [pa, pb, pc, Act.put, pe, pf, pg]
          refine tk (i := 11) (v := undef) rfl (Or.inr ⟨by rfl, rfl⟩) (by assumption) ?_
          try simp only [pa, pb, pc, Act.put, pe, pf, pg]
          refine tk (i := 12) (v := undef) rfl (Or.inr ⟨by rfl, rfl⟩) (by assumption) ?_
          try simp only [pa, pb, pc, Act.put, pe, pf, pg]
          refine tk (i := 13) (v := undef) rfl (Or.inr ⟨by rfl, rfl⟩) (by assumption) ?_
          try simp only [pa, pb, pc, Act.put, pe, pf, pg]
          refine tk (i := 14) (v := undef) rfl (Or.inr ⟨by rfl, rfl⟩) (by assumption) ?_
          try simp only [pa, pb, pc, Act.put, pe, pf, pg]
          refine tk (i := 15) (v := undef) rfl (Or.inr ⟨by rfl, rfl⟩) (by assumption) ?_
          try simp only [pa, pb, pc, Act.put, pe, pf, pg]
          refine tk (i := 16) (v := ?_) rfl (Or.inl ⟨by rfl, ?_⟩) (by assumption) ?_
          rotate_left
          · (intro w hSw; (try dsimp only at hSw); go_simp; (try with_reducible rfl))
          try simp only [pa, pb, pc, Act.put, pe, pf, pg]
          refine wpAnyH_done (by kernel_rfl) ?_ _
          go_wp2_with fail
          go_ret
          rw [HF.out]
          exact ⟨rfl, HB2.out⟩
        · have hled : decide (xi ≤ y) = false := decide_eq_false hle
          have HLE := Lib.hid hle; clear hle
          rcases hnm : hasNm (t.take k) xn with _ | _
          · obtain ⟨HO, HY2⟩ := HYES.out (E4.out hnd HLE.out hnm)
            have HOK := Lib.hid HO; have HY := Lib.hid HY2; clear HO HY2
            refine wp_region_held_drew (S := fun w' => w'.cell? ⟨b, 0, none⟩ = some (.int .i64 xi) ∧ w'.cell? ⟨b, 1, none⟩ = some (.string xn) ∧ w'.cell? ⟨b, 2, none⟩ = some (.int .i64 xf) ∧ w'.cell? ⟨b, 3, none⟩ = some (.bool xp)) (by kernel_rfl) (⟨(HAT.out).in_.c0, (HAT.out).in_.c1, (HAT.out).in_.c2, (HAT.out).in_.c3⟩) (fun hHeld => ?_)
            refine tk (i := 0) (v := ?_) rfl (Or.inl ⟨by rfl, ?_⟩) (by assumption) ?_
            rotate_left
            · (intro w hSw; (try dsimp only at hSw); go_simp; (try with_reducible rfl))
            try simp only [pa, pb, pc, Act.put, pe, pf, pg]
            refine wpAnyH_ready (rs := [1]) (by kernel_rfl) (by simp) (AllReadyH.cons rfl (fun K hK => ?_) AllReadyH.nil)
            go_simp
            refine (HCALL.out _).mono ?_
            rintro e w2 ⟨rfl, b2⟩
            rw [hnd]
            replace b2 := below_two (Below.drew (Below.refl w1.heap.size w1)) b2
            have HAT2 := Lib.hid (HAT.out.below b2 HBL.out)
            have HB2 := Lib.hid (below_two HB1.out b2)
            have HR2 := Lib.hid (HR1.out.below b2)
            have HBL2 := Lib.hid (Nat.lt_of_lt_of_le HBL.out b2.size)
            clear b2
            go_wp2_with fail
            refine hK.out _ _ ?_ (fun hHeld => ?_)
            · exact ⟨(HAT2.out).in_.c0, (HAT2.out).in_.c1, (HAT2.out).in_.c2, (HAT2.out).in_.c3⟩
            clear hK K
            try simp only [pa, pb, pc, Act.put, pe, pf, pg]
            refine tk (i := 2) (v := ?_) rfl (Or.inl ⟨by rfl, ?_⟩) (by assumption) ?_
            rotate_left
            · (intro w hSw; (try dsimp only at hSw); go_simp; (try with_reducible rfl))
            try simp only [pa, pb, pc, Act.put, pe, pf, pg]
            refine tk (i := 3) (v := ?_) rfl (Or.inl ⟨by rfl, ?_⟩) (by assumption) ?_
            rotate_left
            · (intro w hSw; (try dsimp only at hSw); go_simp; (try with_reducible rfl))
            try simp only [pa, pb, pc, Act.put, pe, pf, pg]
            refine tk (i := 4) (v := ?_) rfl (Or.inl ⟨by rfl, ?_⟩) (by assumption) ?_
            rotate_left
            · (intro w hSw; (try dsimp only at hSw); go_simp; (try with_reducible rfl))
            try simp only [pa, pb, pc, Act.put, pe, pf, pg]
            refine tk (i := 5) (v := ?_) rfl (Or.inl ⟨by rfl, ?_⟩) (by assumption) ?_
            rotate_left
            · (intro w hSw; (try dsimp only at hSw); go_simp; (try with_reducible rfl))
            try simp only [pa, pb, pc, Act.put, pe, pf, pg]
            refine tk (i := 6) (v := ?_) rfl (Or.inl ⟨by rfl, ?_⟩) (by assumption) ?_
            rotate_left
            · (intro w hSw; (try dsimp only at hSw); go_simp; (try with_reducible rfl))
            try simp only [pa, pb, pc, Act.put, pe, pf, pg]
            refine tk (i := 7) (v := ?_) rfl (Or.inl ⟨by rfl, ?_⟩) (by assumption) ?_
            rotate_left
            · (intro w hSw; (try dsimp only at hSw); go_simp; (try with_reducible rfl))
            try simp only [pa, pb, pc, Act.put, pe, pf, pg]
            refine tk (i := 8) (v := ?_) rfl (Or.inl ⟨by rfl, ?_⟩) (by assumption) ?_
            rotate_left
            · (intro w hSw; (try dsimp only at hSw); go_simp; (try with_reducible rfl))
            try simp only [pa, pb, pc, Act.put, pe, pf, pg]
            refine tk (i := 9) (v := ?_) rfl (Or.inl ⟨by rfl, ?_⟩) (by assumption) ?_
            rotate_left
            · (intro w hSw; (try dsimp only at hSw); go_simp; (try with_reducible rfl))
            try simp only [pa, pb, pc, Act.put, pe, pf, pg]
            refine tk (i := 10) (v := ?_) rfl (Or.inl ⟨by rfl, ?_⟩) (by assumption) ?_
            rotate_left
            · (intro w hSw; (try dsimp only at hSw); go_simp; (try with_reducible rfl))
            try simp only [pa, pb, pc, Act.put, pe, pf, pg]
            refine tk (i := 11) (v := ?_) rfl (Or.inl ⟨by rfl, ?_⟩) (by assumption) ?_
            rotate_left
            · (intro w hSw; (try dsimp only at hSw); go_simp; (try with_reducible rfl))
            try simp only [pa, pb, pc, Act.put, pe, pf, pg]
            refine tk (i := 12) (v := ?_) rfl (Or.inl ⟨by rfl, ?_⟩) (by assumption) ?_
            rotate_left
            · (intro w hSw; (try dsimp only at hSw); go_simp; (try with_reducible rfl))
            try simp only [pa, pb, pc, Act.put, pe, pf, pg]
            refine tk (i := 13) (v := ?_) rfl (Or.inl ⟨by rfl, ?_⟩) (by assumption) ?_
            rotate_left
            · (intro w hSw; (try dsimp only at hSw); go_simp; (try with_reducible rfl))
            try simp only [pa, pb, pc, Act.put, pe, pf, pg]
            refine tk (i := 14) (v := ?_) rfl (Or.inl ⟨by rfl, ?_⟩) (by assumption) ?_
            rotate_left
            · (intro w hSw; (try dsimp only at hSw); go_simp; (try with_reducible rfl))
            try simp only [pa, pb, pc, Act.put, pe, pf, pg]
            refine wpAnyH_ready (rs := [15]) (by kernel_rfl) (by simp) (AllReadyH.cons rfl (fun K hK => ?_) AllReadyH.nil)
            go_simp
            refine (hasName_any _ _ _ _ _ _ HR2.out (by omega)).mono ?_
            rintro e w3 ⟨rfl, b3⟩
            rw [hnm]
            have HAT3 := Lib.hid (HAT2.out.below b3 HBL2.out)
            have HB3 := Lib.hid (below_two HB2.out b3)
            clear b3
            go_wp2_with fail
            refine hK.out _ _ ?_ (fun hHeld => ?_)
            · exact ⟨(HAT3.out).in_.c0, (HAT3.out).in_.c1, (HAT3.out).in_.c2, (HAT3.out).in_.c3⟩
            clear hK K
            try simp only [pa, pb, pc, Act.put, pe, pf, pg]
            refine tk (i := 16) (v := ?_) rfl (Or.inl ⟨by rfl, ?_⟩) (by assumption) ?_
            rotate_left
            · (intro w hSw; (try dsimp only at hSw); go_simp; (try with_reducible rfl))
            try simp only [pa, pb, pc, Act.put, pe, pf, pg]
            refine wpAnyH_done (by kernel_rfl) ?_ _
            obtain ⟨h0, h1, h2, h3⟩ := HAT3.out.in_
            go_wp2_with fail
            go_roundw
            case rel => exact ⟨k + 1, by omega, by go_num, by rw [← HYE.out, HY.out], HB3.out, HOK.out⟩
            case measure => simp [intOf]; omega
          · have HF := Lib.hid (HNO.out (E3.out hnm))
            refine wp_region_held_drew (S := fun w' => w'.cell? ⟨b, 0, none⟩ = some (.int .i64 xi) ∧ w'.cell? ⟨b, 1, none⟩ = some (.string xn) ∧ w'.cell? ⟨b, 2, none⟩ = some (.int .i64 xf) ∧ w'.cell? ⟨b, 3, none⟩ = some (.bool xp)) (by kernel_rfl) (⟨(HAT.out).in_.c0, (HAT.out).in_.c1, (HAT.out).in_.c2, (HAT.out).in_.c3⟩) (fun hHeld => ?_)
            refine tk (i := 0) (v := ?_) rfl (Or.inl ⟨by rfl, ?_⟩) (by assumption) ?_
            rotate_left
            · (intro w hSw; (try dsimp only at hSw); go_simp; (try with_reducible rfl))
            try simp only [pa, pb, pc, Act.put, pe, pf, pg]
            refine wpAnyH_ready (rs := [1]) (by kernel_rfl) (by simp) (AllReadyH.cons rfl (fun K hK => ?_) AllReadyH.nil)
            go_simp
            refine (HCALL.out _).mono ?_
            rintro e w2 ⟨rfl, b2⟩
            rw [hnd]
            replace b2 := below_two (Below.drew (Below.refl w1.heap.size w1)) b2
            have HAT2 := Lib.hid (HAT.out.below b2 HBL.out)
            have HB2 := Lib.hid (below_two HB1.out b2)
            have HR2 := Lib.hid (HR1.out.below b2)
            have HBL2 := Lib.hid (Nat.lt_of_lt_of_le HBL.out b2.size)
            clear b2
            go_wp2_with fail
            refine hK.out _ _ ?_ (fun hHeld => ?_)
            · exact ⟨(HAT2.out).in_.c0, (HAT2.out).in_.c1, (HAT2.out).in_.c2, (HAT2.out).in_.c3⟩
            clear hK K
            try simp only [pa, pb, pc, Act.put, pe, pf, pg]
            refine tk (i := 2) (v := ?_) rfl (Or.inl ⟨by rfl, ?_⟩) (by assumption) ?_
            rotate_left
            · (intro w hSw; (try dsimp only at hSw); go_simp; (try with_reducible rfl))
            try simp only [pa, pb, pc, Act.put, pe, pf, pg]
            refine tk (i := 3) (v := ?_) rfl (Or.inl ⟨by rfl, ?_⟩) (by assumption) ?_
            rotate_left
            · (intro w hSw; (try dsimp only at hSw); go_simp; (try with_reducible rfl))
            try simp only [pa, pb, pc, Act.put, pe, pf, pg]
            refine tk (i := 4) (v := ?_) rfl (Or.inl ⟨by rfl, ?_⟩) (by assumption) ?_
            rotate_left
            · (intro w hSw; (try dsimp only at hSw); go_simp; (try with_reducible rfl))
            try simp only [pa, pb, pc, Act.put, pe, pf, pg]
            refine tk (i := 5) (v := ?_) rfl (Or.inl ⟨by rfl, ?_⟩) (by assumption) ?_
            rotate_left
            · (intro w hSw; (try dsimp only at hSw); go_simp; (try with_reducible rfl))
            try simp only [pa, pb, pc, Act.put, pe, pf, pg]
            refine tk (i := 6) (v := ?_) rfl (Or.inl ⟨by rfl, ?_⟩) (by assumption) ?_
            rotate_left
            · (intro w hSw; (try dsimp only at hSw); go_simp; (try with_reducible rfl))
            try simp only [pa, pb, pc, Act.put, pe, pf, pg]
            refine tk (i := 7) (v := ?_) rfl (Or.inl ⟨by rfl, ?_⟩) (by assumption) ?_
            rotate_left
            · (intro w hSw; (try dsimp only at hSw); go_simp; (try with_reducible rfl))
            try simp only [pa, pb, pc, Act.put, pe, pf, pg]
            refine tk (i := 8) (v := ?_) rfl (Or.inl ⟨by rfl, ?_⟩) (by assumption) ?_
            rotate_left
            · (intro w hSw; (try dsimp only at hSw); go_simp; (try with_reducible rfl))
            try simp only [pa, pb, pc, Act.put, pe, pf, pg]
            refine tk (i := 9) (v := ?_) rfl (Or.inl ⟨by rfl, ?_⟩) (by assumption) ?_
            rotate_left
            · (intro w hSw; (try dsimp only at hSw); go_simp; (try with_reducible rfl))
            try simp only [pa, pb, pc, Act.put, pe, pf, pg]
            refine tk (i := 10) (v := ?_) rfl (Or.inl ⟨by rfl, ?_⟩) (by assumption) ?_
            rotate_left
            · (intro w hSw; (try dsimp only at hSw); go_simp; (try with_reducible rfl))
            try simp only [pa, pb, pc, Act.put, pe, pf, pg]
            refine tk (i := 11) (v := ?_) rfl (Or.inl ⟨by rfl, ?_⟩) (by assumption) ?_
            rotate_left
            · (intro w hSw; (try dsimp only at hSw); go_simp; (try with_reducible rfl))
            try simp only [pa, pb, pc, Act.put, pe, pf, pg]
            refine tk (i := 12) (v := ?_) rfl (Or.inl ⟨by rfl, ?_⟩) (by assumption) ?_
            rotate_left
            · (intro w hSw; (try dsimp only at hSw); go_simp; (try with_reducible rfl))
            try simp only [pa, pb, pc, Act.put, pe, pf, pg]
            refine tk (i := 13) (v := ?_) rfl (Or.inl ⟨by rfl, ?_⟩) (by assumption) ?_
            rotate_left
            · (intro w hSw; (try dsimp only at hSw); go_simp; (try with_reducible rfl))
            try simp only [pa, pb, pc, Act.put, pe, pf, pg]
            refine tk (i := 14) (v := ?_) rfl (Or.inl ⟨by rfl, ?_⟩) (by assumption) ?_
            rotate_left
            · (intro w hSw; (try dsimp only at hSw); go_simp; (try with_reducible rfl))
            try simp only [pa, pb, pc, Act.put, pe, pf, pg]
            refine wpAnyH_ready (rs := [15]) (by kernel_rfl) (by simp) (AllReadyH.cons rfl (fun K hK => ?_) AllReadyH.nil)
            go_simp
            refine (hasName_any _ _ _ _ _ _ HR2.out (by omega)).mono ?_
            rintro e w3 ⟨rfl, b3⟩
            rw [hnm]
            have HAT3 := Lib.hid (HAT2.out.below b3 HBL2.out)
            have HB3 := Lib.hid (below_two HB2.out b3)
            clear b3
            go_wp2_with fail
            refine hK.out _ _ ?_ (fun hHeld => ?_)
            · exact ⟨(HAT3.out).in_.c0, (HAT3.out).in_.c1, (HAT3.out).in_.c2, (HAT3.out).in_.c3⟩
            clear hK K
            try simp only [pa, pb, pc, Act.put, pe, pf, pg]
            refine tk (i := 16) (v := ?_) rfl (Or.inl ⟨by rfl, ?_⟩) (by assumption) ?_
            rotate_left
            · (intro w hSw; (try dsimp only at hSw); go_simp; (try with_reducible rfl))
            try simp only [pa, pb, pc, Act.put, pe, pf, pg]
            refine wpAnyH_done (by kernel_rfl) ?_ _
            go_wp2_with fail
            go_ret
            rw [HF.out]
            exact ⟨rfl, HB3.out⟩
    · have hkn : k = n := by omega
      subst hkn
      have HB := Lib.hid hb; clear hb
      go_wp2_with fail
      go_ret
      exact ⟨ret_bool (by rw [table_len (by rw [HL.out]; exact hall.out), HL.out]; first | done | simp), HB.out⟩
end

section
open Go.RowKit
theorem table_size {t : List Nd} (h : inRange 1 32 (t.length : Int) = false) : isTable t = false := by
  rw [Bool.eq_false_iff]
  intro hc
  have := (isTable_iff.1 hc).1
  rw [Bool.eq_false_iff] at h
  exact h (inR10.2 (by omega))
theorem table_ok {t : List Nd} (h : inRange 1 32 (t.length : Int) = true) (h2 : okTo t t.length) : isTable t = true := by
  have := inR10.1 h
  exact isTable_iff.2 ⟨by omega, h2⟩
theorem lastId_pred {t : List Nd} {k : Nat} (h : 0 < k) : (ndOf t (k - 1)).id = lastId t k := by
  obtain ⟨j, rfl⟩ : ∃ j, k = j + 1 := ⟨k - 1, by omega⟩
  rfl
set_option maxHeartbeats 2000000 in
set_option maxRecDepth 100000 in
set_option linter.unusedSimpArgs false in
theorem sIsTable_any (ao : Option Addr) (n cap : Nat) (t : List Nd) (w : World) (hr : RdN w ao n t) (hn : n ≤ cap) (hcap : cap ≤ 9223372036854775807) (hs : smallN t) :
    Calls Tryz.prog 195 #[.slice ao n cap] w fun e w' => e = .returned (.bool (isTable t)) ∧ Below w.heap.size w w' := by
  have HL := Lib.hid hr.len
  have HS := Lib.hid hs; clear hs
  have HR := Lib.hid hr; clear hr
  rcases hin : inRange 1 32 (n : Int) with _ | _
  · have HF := Lib.hid (table_size (t := t) (by rw [HL.out]; exact hin))
    go_enter Tryz.func195, Tryz.ntmps195
    go_wp2_with (go_at_call 180; refine (l01In_any _ _ _ _).mono ?_; rintro e w' ⟨rfl, rfl⟩; rw [hin])
    go_ret
    rw [HF.out]
    exact ⟨rfl, Below.refl _ _⟩
  go_enter Tryz.func195, Tryz.ntmps195
  go_wp2_with (go_at_call 180; refine (l01In_any _ _ _ _).mono ?_; rintro e w' ⟨rfl, rfl⟩; rw [hin])
  go_loopw [3] (fun i wr => ∃ k : Nat, k ≤ n ∧ i = .int .i64 k ∧ Below w.heap.size w wr ∧ Hid (okTo t k)) (fun i _ => n - (intOf i).toNat)
  case atStart => exact ⟨0, Nat.zero_le _, rfl, Below.refl _ _, okTo_zero t⟩
  case round =>
    obtain ⟨k, hk, rfl, hb, hall⟩ := hrel
    by_cases hlt : k < n
    · have hkt : k < t.length := by rw [HL.out]; exact hlt
      have hsz := HS.out k hkt
      have hrb := HR.out.below hb; clear HR
      obtain ⟨g, off, rfl, hg, hx⟩ := hrb.at hlt
      have hp : 0 < k → NdIn wr g (off + (k - 1) * 4) (ndOf t (k - 1)) := fun h0 => by
        obtain ⟨g', off', e, -, h⟩ := hrb.at (i := k - 1) (by omega)
        cases e; exact h
      have HRb := Lib.hid hrb; clear hrb
      have hno : entryOk t k = false → isTable t = false := table_no hkt
      have hyes : entryOk t k = true → okTo t (k + 1) := fun h => okTo_succ hall.out h
      have e1 := entry_nd (t := t) (k := k)
      have e2 := entry_up (t := t) (k := k)
      have e3 := entry_new (t := t) (k := k) (by omega)
      have e4 := entry_yes (t := t) (k := k) (by omega)
      have hy0 : 0 < k → (ndOf t (k - 1)).id = lastId t k := lastId_pred
      have hz0 : k = 0 → lastId t k = -1 := fun h => by subst h; rfl
      obtain ⟨x, hxe⟩ : ∃ x, x = ndOf t k := ⟨_, rfl⟩
      obtain ⟨y, hye⟩ : ∃ y, y = lastId t k := ⟨_, rfl⟩
      rw [← hxe] at hx hsz e1 e2 e3 e4
      rw [← hye] at e2 e4 hy0 hz0
      have HXE := Lib.hid hxe
      have HSZ := Lib.hid hsz
      have HNO := Lib.hid hno; have HYES := Lib.hid hyes; have E1 := Lib.hid e1; have E2 := Lib.hid e2; have E3 := Lib.hid e3; have E4 := Lib.hid e4; have HY0 := Lib.hid hy0; have HZ0 := Lib.hid hz0; have HP := Lib.hid hp
      clear hno hyes e1 e2 e3 e4 hye hxe hkt hsz hy0 hz0 hp
      have HALL := Lib.hid hall; clear hall
      have HB0 := Lib.hid hb; clear hb
      have HX := Lib.hid hx; clear hx
      have HG := Lib.hid hg; clear hg
      have hkc : (k : Int) ≤ (cap : Int) := by omega
      have hk0 : (0 : Int) ≤ (k : Int) := by omega
      have hcall := fun W => sIsNodeInfo_any x W HSZ.out
      unfold ndVal at hcall
      have HCALL := Lib.hid hcall; clear hcall
      obtain ⟨xi, xn, xf, xp⟩ := x
      dsimp only at *
      go_upto_region 6 with fail
      rcases hnd : isNd ⟨xi, xn, xf, xp⟩ with _ | _
      · have HF := Lib.hid (HNO.out (E1.out hnd))
        refine wp_region_held_drew (S := fun w' => w'.cell? ⟨g, off + k * 4, none⟩ = some (.int .i64 xi) ∧ w'.cell? ⟨g, off + k * 4 + 1, none⟩ = some (.string xn) ∧ w'.cell? ⟨g, off + k * 4 + 2, none⟩ = some (.int .i64 xf) ∧ w'.cell? ⟨g, off + k * 4 + 3, none⟩ = some (.bool xp)) (by kernel_rfl) (⟨(HX.out).c0, (HX.out).c1, (HX.out).c2, (HX.out).c3⟩) (fun hHeld => ?_)
        refine tk (i := 0) (v := ?_) rfl (Or.inl ⟨by rfl, ?_⟩) (by assumption) ?_
        rotate_left
        · (intro w hSw; (try dsimp only at hSw); go_simp; (try with_reducible rfl))
        try simp only [pa, pb, pc, Act.put, pe, pf, pg]
        refine tk (i := 1) (v := ?_) rfl (Or.inl ⟨by rfl, ?_⟩) (by assumption) ?_
        rotate_left
        · (intro w hSw; (try dsimp only at hSw); go_simp; (try with_reducible rfl))
        try simp only [pa, pb, pc, Act.put, pe, pf, pg]
        refine tk (i := 2) (v := ?_) rfl (Or.inl ⟨by rfl, ?_⟩) (by assumption) ?_
        rotate_left
        · (intro w hSw; (try dsimp only at hSw); go_simp; (try with_reducible rfl))
        try simp only [pa, pb, pc, Act.put, pe, pf, pg]
        refine tk (i := 3) (v := ?_) rfl (Or.inl ⟨by rfl, ?_⟩) (by assumption) ?_
        rotate_left
        · (intro w hSw; (try dsimp only at hSw); go_simp; (try with_reducible rfl))
        try simp only [pa, pb, pc, Act.put, pe, pf, pg]
        refine wpAnyH_ready (rs := [4]) (by kernel_rfl) (by simp) (AllReadyH.cons rfl (fun K hK => ?_) AllReadyH.nil)
        go_simp
        refine (HCALL.out _).mono ?_
        rintro e w2 ⟨rfl, b2⟩
        rw [hnd]
        replace b2 := below_two (Below.drew (Below.refl wr.heap.size wr)) b2
        have HX2 := Lib.hid (HX.out.below b2 HG.out)
        have HB2 := Lib.hid (below_two HB0.out b2)
        clear b2
        go_wp2_with fail
        refine hK.out _ _ ?_ (fun hHeld => ?_)
        · exact ⟨(HX2.out).c0, (HX2.out).c1, (HX2.out).c2, (HX2.out).c3⟩
        clear hK K
        try simp only [pa, pb, pc, Act.put, pe, pf, pg]
        refine tk (i := 5) (v := ?_) rfl (Or.inl ⟨by rfl, ?_⟩) (by assumption) ?_
        rotate_left
        · (intro w hSw; (try dsimp only at hSw); go_simp; (try with_reducible rfl))
        try simp only [pa, pb, pc, Act.put, pe, pf, pg]
        refine tk (i := 6) (v := ?_) rfl (Or.inl ⟨by rfl, ?_⟩) (by assumption) ?_
        rotate_left
        · (intro w hSw; (try dsimp only at hSw); go_simp; (try with_reducible rfl))
        try simp only [pa, pb, pc, Act.put, pe, pf, pg]
        refine tk (i := 7) (v := undef) rfl (Or.inr ⟨by rfl, rfl⟩) (by assumption) ?_
        try simp only [pa, pb, pc, Act.put, pe, pf, pg]
        refine tk (i := 8) (v := undef) rfl (Or.inr ⟨by rfl, rfl⟩) (by assumption) ?_
        try simp only [pa, pb, pc, Act.put, pe, pf, pg]
        refine tk (i := 9) (v := undef) rfl (Or.inr ⟨by rfl, rfl⟩) (by assumption) ?_
        try simp only [pa, pb, pc, Act.put, pe, pf, pg]
        refine tk (i := 10) (v := undef) rfl (Or.inr ⟨by rfl, rfl⟩) (by assumption) ?_
        try simp only [pa, pb, pc, Act.put, pe, pf, pg]
        refine tk (i := 11) (v := undef) rfl (Or.inr ⟨by rfl, rfl⟩) (by assumption) ?_
        try simp only [pa, pb, pc, Act.put, pe, pf, pg]
        refine tk (i := 12) (v := undef) rfl (Or.inr ⟨by rfl, rfl⟩) (by assumption) ?_
        try simp only [pa, pb, pc, Act.put, pe, pf, pg]
        refine tk (i := 13) (v := undef) rfl (Or.inr ⟨by rfl, rfl⟩) (by assumption) ?_
        try simp only [pa, pb, pc, Act.put, pe, pf, pg]
        refine tk (i := 14) (v := undef) rfl (Or.inr ⟨by rfl, rfl⟩) (by assumption) ?_
        try simp only [pa, pb, pc, Act.put, pe, pf, pg]
        refine tk (i := 15) (v := undef) rfl (Or.inr ⟨by rfl, rfl⟩) (by assumption) ?_
        try simp only [pa, pb, pc, Act.put, pe, pf, pg]
        refine tk (i := 16) (v := undef) rfl (Or.inr ⟨by rfl, rfl⟩) (by assumption) ?_
        try simp only [pa, pb, pc, Act.put, pe, pf, pg]
        refine tk (i := 17) (v := undef) rfl (Or.inr ⟨by rfl, rfl⟩) (by assumption) ?_
        try simp only [pa, pb, pc, Act.put, pe, pf, pg]
        refine tk (i := 18) (v := undef) rfl (Or.inr ⟨by rfl, rfl⟩) (by assumption) ?_
        try simp only [pa, pb, pc, Act.put, pe, pf, pg]
        refine tk (i := 19) (v := undef) rfl (Or.inr ⟨by rfl, rfl⟩) (by assumption) ?_
        try simp only [pa, pb, pc, Act.put, pe, pf, pg]
        refine tk (i := 20) (v := undef) rfl (Or.inr ⟨by rfl, rfl⟩) (by assumption) ?_
        try simp only [pa, pb, pc, Act.put, pe, pf, pg]
        refine tk (i := 21) (v := undef) rfl (Or.inr ⟨by rfl, rfl⟩) (by assumption) ?_
        try simp only [pa, pb, pc, Act.put, pe, pf, pg]
        refine tk (i := 22) (v := undef) rfl (Or.inr ⟨by rfl, rfl⟩) (by assumption) ?_
        try simp only [pa, pb, pc, Act.put, pe, pf, pg]
        refine tk (i := 23) (v := ?_) rfl (Or.inl ⟨by rfl, ?_⟩) (by assumption) ?_
        rotate_left
        · (intro w hSw; (try dsimp only at hSw); go_simp; (try with_reducible rfl))
        try simp only [pa, pb, pc, Act.put, pe, pf, pg]
        refine wpAnyH_done (by kernel_rfl) ?_ _
        go_wp2_with fail
        go_ret
        rw [HF.out]
        exact ⟨rfl, HB2.out⟩
      · by_cases hk1 : k = 0
        · have hle : ¬ xi ≤ y := by have h1 := (isNd_iff.1 hnd).1.1; have h2 := HZ0.out hk1; dsimp only at h1; omega
          have HLE := Lib.hid hle; clear hle
          have hkd : decide (0 < k) = false := by rw [decide_eq_false_iff_not]; omega
          have HK1 := Lib.hid hk1; clear hk1
          refine wp_region_held_drew (S := fun w' => w'.cell? ⟨g, off + k * 4, none⟩ = some (.int .i64 xi) ∧ w'.cell? ⟨g, off + k * 4 + 1, none⟩ = some (.string xn) ∧ w'.cell? ⟨g, off + k * 4 + 2, none⟩ = some (.int .i64 xf) ∧ w'.cell? ⟨g, off + k * 4 + 3, none⟩ = some (.bool xp)) (by kernel_rfl) (⟨(HX.out).c0, (HX.out).c1, (HX.out).c2, (HX.out).c3⟩) (fun hHeld => ?_)
          refine tk (i := 0) (v := ?_) rfl (Or.inl ⟨by rfl, ?_⟩) (by assumption) ?_
          rotate_left
          · (intro w hSw; (try dsimp only at hSw); go_simp; (try with_reducible rfl))
          try simp only [pa, pb, pc, Act.put, pe, pf, pg]
          refine tk (i := 1) (v := ?_) rfl (Or.inl ⟨by rfl, ?_⟩) (by assumption) ?_
          rotate_left
          · (intro w hSw; (try dsimp only at hSw); go_simp; (try with_reducible rfl))
          try simp only [pa, pb, pc, Act.put, pe, pf, pg]
          refine tk (i := 2) (v := ?_) rfl (Or.inl ⟨by rfl, ?_⟩) (by assumption) ?_
          rotate_left
          · (intro w hSw; (try dsimp only at hSw); go_simp; (try with_reducible rfl))
          try simp only [pa, pb, pc, Act.put, pe, pf, pg]
          refine tk (i := 3) (v := ?_) rfl (Or.inl ⟨by rfl, ?_⟩) (by assumption) ?_
          rotate_left
          · (intro w hSw; (try dsimp only at hSw); go_simp; (try with_reducible rfl))
          try simp only [pa, pb, pc, Act.put, pe, pf, pg]
          refine wpAnyH_ready (rs := [4]) (by kernel_rfl) (by simp) (AllReadyH.cons rfl (fun K hK => ?_) AllReadyH.nil)
          go_simp
          refine (HCALL.out _).mono ?_
          rintro e w2 ⟨rfl, b2⟩
          rw [hnd]
          replace b2 := below_two (Below.drew (Below.refl wr.heap.size wr)) b2
          have HX2 := Lib.hid (HX.out.below b2 HG.out)
          have HB2 := Lib.hid (below_two HB0.out b2)
          have HR2 := Lib.hid (HRb.out.below b2)
          clear b2
          go_wp2_with fail
          refine hK.out _ _ ?_ (fun hHeld => ?_)
          · exact ⟨(HX2.out).c0, (HX2.out).c1, (HX2.out).c2, (HX2.out).c3⟩
          clear hK K
          try simp only [pa, pb, pc, Act.put, pe, pf, pg]
          refine tk (i := 5) (v := ?_) rfl (Or.inl ⟨by rfl, ?_⟩) (by assumption) ?_
          rotate_left
          · (intro w hSw; (try dsimp only at hSw); go_simp; (try with_reducible rfl))
          try simp only [pa, pb, pc, Act.put, pe, pf, pg]
          refine tk (i := 6) (v := ?_) rfl (Or.inl ⟨by rfl, ?_⟩) (by assumption) ?_
          rotate_left
          · (intro w hSw; (try dsimp only at hSw); go_simp; (try with_reducible rfl))
          try simp only [pa, pb, pc, Act.put, pe, pf, pg]
          refine tk (i := 7) (v := ?_) rfl (Or.inl ⟨by rfl, ?_⟩) (by assumption) ?_
          rotate_left
          · (intro w hSw; (try dsimp only at hSw); go_simp; (try with_reducible rfl))
          try simp only [pa, pb, pc, Act.put, pe, pf, pg]
          refine tk (i := 8) (v := ?_) rfl (Or.inl ⟨by rfl, ?_⟩) (by assumption) ?_
          rotate_left
          · (intro w hSw; (try dsimp only at hSw); go_simp; (try with_reducible rfl))
          try simp only [pa, pb, pc, Act.put, pe, pf, pg]
          refine tk (i := 9) (v := ?_) rfl (Or.inl ⟨by rfl, ?_⟩) (by assumption) ?_
          rotate_left
          · (intro w hSw; (try dsimp only at hSw); go_simp; (try with_reducible rfl))
          try simp only [pa, pb, pc, Act.put, pe, pf, pg]
          refine tk (i := 10) (v := undef) rfl (Or.inr ⟨by rfl, rfl⟩) (by assumption) ?_
          try simp only [pa, pb, pc, Act.put, pe, pf, pg]
          refine tk (i := 11) (v := undef) rfl (Or.inr ⟨by rfl, rfl⟩) (by assumption) ?_
          try simp only [pa, pb, pc, Act.put, pe, pf, pg]
          refine tk (i := 12) (v := undef) rfl (Or.inr ⟨by rfl, rfl⟩) (by assumption) ?_
          try simp only [pa, pb, pc, Act.put, pe, pf, pg]
          refine tk (i := 13) (v := undef) rfl (Or.inr ⟨by rfl, rfl⟩) (by assumption) ?_
          try simp only [pa, pb, pc, Act.put, pe, pf, pg]
          refine tk (i := 14) (v := undef) rfl (Or.inr ⟨by rfl, rfl⟩) (by assumption) ?_
          try simp only [pa, pb, pc, Act.put, pe, pf, pg]
          refine tk (i := 15) (v := undef) rfl (Or.inr ⟨by rfl, rfl⟩) (by assumption) ?_
          try simp only [pa, pb, pc, Act.put, pe, pf, pg]
          refine tk (i := 16) (v := undef) rfl (Or.inr ⟨by rfl, rfl⟩) (by assumption) ?_
          try simp only [pa, pb, pc, Act.put, pe, pf, pg]
          refine tk (i := 17) (v := undef) rfl (Or.inr ⟨by rfl, rfl⟩) (by assumption) ?_
          try simp only [pa, pb, pc, Act.put, pe, pf, pg]
          refine tk (i := 18) (v := undef) rfl (Or.inr ⟨by rfl, rfl⟩) (by assumption) ?_
          try simp only [pa, pb, pc, Act.put, pe, pf, pg]
          refine tk (i := 19) (v := undef) rfl (Or.inr ⟨by rfl, rfl⟩) (by assumption) ?_
          try simp only [pa, pb, pc, Act.put, pe, pf, pg]
          refine tk (i := 20) (v := undef) rfl (Or.inr ⟨by rfl, rfl⟩) (by assumption) ?_
          try simp only [pa, pb, pc, Act.put, pe, pf, pg]
          refine tk (i := 21) (v := undef) rfl (Or.inr ⟨by rfl, rfl⟩) (by assumption) ?_
          try simp only [pa, pb, pc, Act.put, pe, pf, pg]
          refine tk (i := 22) (v := ?_) rfl (Or.inl ⟨by rfl, ?_⟩) (by assumption) ?_
          rotate_left
          · (intro w hSw; (try dsimp only at hSw); go_simp; (try with_reducible rfl))
          try simp only [pa, pb, pc, Act.put, pe, pf, pg]
          refine tk (i := 23) (v := ?_) rfl (Or.inl ⟨by rfl, ?_⟩) (by assumption) ?_
          rotate_left
          · (intro w hSw; (try dsimp only at hSw); go_simp; (try with_reducible rfl))
          try simp only [pa, pb, pc, Act.put, pe, pf, pg]
          refine wpAnyH_done (by kernel_rfl) ?_ _
          go_wp2_with fail
          have HYN := Lib.hid (fun h => HYES.out (E4.out hnd HLE.out h)); have HNN := Lib.hid (fun h => HNO.out (E3.out h))
          clear E1 E2 E3 E4 HNO HYES
          go_loopw [4] (fun i wr2 => ∃ m : Nat, m ≤ k ∧ i = .int .i64 m ∧ (∃ q, wr2 = w2.drewN q) ∧ Hid (hasNm (t.take m) xn = false)) (fun i _ => k - (intOf i).toNat)
          case atStart => exact ⟨0, Nat.zero_le _, rfl, ⟨0, rfl⟩, rfl⟩
          case round =>
            obtain ⟨m, hm, rfl, ⟨q, rfl⟩, hnames⟩ := hrel
            by_cases hmk : m < k
            · obtain ⟨g', off', e, -, hz⟩ := HR2.out.at (i := m) (by omega)
              obtain ⟨g'', off'', e', -, hx⟩ := HR2.out.at (i := k) hlt
              cases e; cases e'
              rw [← HXE.out] at hx
              have hs1 := hasNm_succ (t := t) (s := xn) (k := m) (by rw [HL.out]; omega) hnames.out
              have hs2 := hasNm_yes (t := t.take k) (s := xn) (k := m) (by rw [List.length_take, HL.out]; omega)
              rw [ndOf_take hmk] at hs2
              obtain ⟨z, hze⟩ : ∃ z, z = ndOf t m := ⟨_, rfl⟩
              rw [← hze] at hz hs1 hs2
              have HS1 := Lib.hid hs1; have HS2 := Lib.hid hs2; clear hs1 hs2 hze
              obtain ⟨-, hz1, -, -⟩ := hz
              obtain ⟨-, hx1, -, -⟩ := hx
              have hbq := Lib.bytes_beq_iff z.name xn
              have hd : (z.name.toList == xn.toList) = decide (z.name = xn) := by rw [Bool.eq_iff_iff, hbq, decide_eq_true_eq]
              rcases hc : decide (z.name = xn) with _ | _
              · rw [hc] at hd
                have HC := Lib.hid (HS1.out hc); clear hc hbq HS1 HS2
                go_wp2_with fail
                go_quiet (fail)
                go_wp2_with fail
                go_roundw
                case rel => exact ⟨m + 1, by omega, by go_num, ⟨_, rfl⟩, HC.out⟩
                case measure => simp [intOf]; omega
              · rw [hc] at hd
                have HF := Lib.hid (HNN.out (HS2.out hc)); clear hc hbq HS1 HS2
                go_wp2_with fail
                go_quiet (fail)
                go_wp2_with fail
                go_ret
                rw [HF.out]
                exact ⟨rfl, below_drewN' (below_drewN' HB2.out _) _⟩
            · have hmk : m = k := by omega
              subst hmk
              have HOK := Lib.hid (HYN.out hnames.out)
              go_wp2_with fail
              go_roundw
              case rel => exact ⟨m + 1, by omega, by go_num, below_drewN' HB2.out _, HOK.out⟩
              case measure => simp [intOf]; omega
        · have hk1' : 0 < k := by omega
          have hkd : decide (0 < k) = true := by rw [decide_eq_true_eq]; omega
          have hp1 := (HP.out hk1').c0
          rw [HY0.out hk1'] at hp1
          have HP1 := Lib.hid hp1; clear hp1
          have hkm : IntKind.i64.wrap ((k : Int) - 1) = ((k - 1 : Nat) : Int) := by rw [IntKind.wrap_i64]; omega
          have hkm1 : ((k - 1 : Nat) : Int) < (n : Int) := by omega
          have hkm0 : (0 : Int) ≤ ((k - 1 : Nat) : Int) := by omega
          have HK1 := Lib.hid hk1'; clear hk1 hk1'
          by_cases hle : xi ≤ y
          · have HF := Lib.hid (HNO.out (E2.out hnd hle))
            refine wp_region_held_drew (S := fun w' => w'.cell? ⟨g, off + k * 4, none⟩ = some (.int .i64 xi) ∧ w'.cell? ⟨g, off + k * 4 + 1, none⟩ = some (.string xn) ∧ w'.cell? ⟨g, off + k * 4 + 2, none⟩ = some (.int .i64 xf) ∧ w'.cell? ⟨g, off + k * 4 + 3, none⟩ = some (.bool xp) ∧ w'.cell? ⟨g, off + (k - 1) * 4, none⟩ = some (.int .i64 y)) (by kernel_rfl) (⟨(HX.out).c0, (HX.out).c1, (HX.out).c2, (HX.out).c3, HP1.out⟩) (fun hHeld => ?_)
            refine tk (i := 0) (v := ?_) rfl (Or.inl ⟨by rfl, ?_⟩) (by assumption) ?_
            rotate_left
            · (intro w hSw; (try dsimp only at hSw); go_simp; (try with_reducible rfl))
            try simp only [pa, pb, pc, Act.put, pe, pf, pg]
            refine tk (i := 1) (v := ?_) rfl (Or.inl ⟨by rfl, ?_⟩) (by assumption) ?_
            rotate_left
            · (intro w hSw; (try dsimp only at hSw); go_simp; (try with_reducible rfl))
            try simp only [pa, pb, pc, Act.put, pe, pf, pg]
            refine tk (i := 2) (v := ?_) rfl (Or.inl ⟨by rfl, ?_⟩) (by assumption) ?_
            rotate_left
            · (intro w hSw; (try dsimp only at hSw); go_simp; (try with_reducible rfl))
            try simp only [pa, pb, pc, Act.put, pe, pf, pg]
            refine tk (i := 3) (v := ?_) rfl (Or.inl ⟨by rfl, ?_⟩) (by assumption) ?_
            rotate_left
            · (intro w hSw; (try dsimp only at hSw); go_simp; (try with_reducible rfl))
            try simp only [pa, pb, pc, Act.put, pe, pf, pg]
            refine wpAnyH_ready (rs := [4]) (by kernel_rfl) (by simp) (AllReadyH.cons rfl (fun K hK => ?_) AllReadyH.nil)
            go_simp
            refine (HCALL.out _).mono ?_
            rintro e w2 ⟨rfl, b2⟩
            rw [hnd]
            replace b2 := below_two (Below.drew (Below.refl wr.heap.size wr)) b2
            have HX2 := Lib.hid (HX.out.below b2 HG.out)
            have HB2 := Lib.hid (below_two HB0.out b2)
            have HP2 := Lib.hid ((b2.cell (p := ⟨g, off + (k - 1) * 4, none⟩) HG.out).trans HP1.out)
            clear b2
            go_wp2_with fail
            refine hK.out _ _ ?_ (fun hHeld => ?_)
            · exact ⟨(HX2.out).c0, (HX2.out).c1, (HX2.out).c2, (HX2.out).c3, HP2.out⟩
            clear hK K
            try simp only [pa, pb, pc, Act.put, pe, pf, pg]
            refine tk (i := 5) (v := ?_) rfl (Or.inl ⟨by rfl, ?_⟩) (by assumption) ?_
            rotate_left
            · (intro w hSw; (try dsimp only at hSw); go_simp; (try with_reducible rfl))
            try simp only [pa, pb, pc, Act.put, pe, pf, pg]
            refine tk (i := 6) (v := ?_) rfl (Or.inl ⟨by rfl, ?_⟩) (by assumption) ?_
            rotate_left
            · (intro w hSw; (try dsimp only at hSw); go_simp; (try with_reducible rfl))
            try simp only [pa, pb, pc, Act.put, pe, pf, pg]
            refine tk (i := 7) (v := ?_) rfl (Or.inl ⟨by rfl, ?_⟩) (by assumption) ?_
            rotate_left
            · (intro w hSw; (try dsimp only at hSw); go_simp; (try with_reducible rfl))
            try simp only [pa, pb, pc, Act.put, pe, pf, pg]
            refine tk (i := 8) (v := ?_) rfl (Or.inl ⟨by rfl, ?_⟩) (by assumption) ?_
            rotate_left
            · (intro w hSw; (try dsimp only at hSw); go_simp; (try with_reducible rfl))
            try simp only [pa, pb, pc, Act.put, pe, pf, pg]
            refine tk (i := 9) (v := ?_) rfl (Or.inl ⟨by rfl, ?_⟩) (by assumption) ?_
            rotate_left
            · (intro w hSw; (try dsimp only at hSw); go_simp; (try with_reducible rfl))
            try simp only [pa, pb, pc, Act.put, pe, pf, pg]
            refine tk (i := 10) (v := ?_) rfl (Or.inl ⟨by rfl, ?_⟩) (by assumption) ?_
            rotate_left
            · (intro w hSw; (try dsimp only at hSw); go_simp; (try with_reducible rfl))
            try simp only [pa, pb, pc, Act.put, pe, pf, pg]
            refine tk (i := 11) (v := ?_) rfl (Or.inl ⟨by rfl, ?_⟩) (by assumption) ?_
            rotate_left
            · (intro w hSw; (try dsimp only at hSw); go_simp; (try with_reducible rfl))
            try simp only [pa, pb, pc, Act.put, pe, pf, pg]
            refine tk (i := 12) (v := ?_) rfl (Or.inl ⟨by rfl, ?_⟩) (by assumption) ?_
            rotate_left
            · (intro w hSw; (try dsimp only at hSw); go_simp; (try with_reducible rfl))
            try simp only [pa, pb, pc, Act.put, pe, pf, pg]
            refine tk (i := 13) (v := ?_) rfl (Or.inl ⟨by rfl, ?_⟩) (by assumption) ?_
            rotate_left
            · (intro w hSw; (try dsimp only at hSw); go_simp; (try with_reducible rfl))
            try simp only [pa, pb, pc, Act.put, pe, pf, pg]
            refine tk (i := 14) (v := ?_) rfl (Or.inl ⟨by rfl, ?_⟩) (by assumption) ?_
            rotate_left
            · (intro w hSw; (try dsimp only at hSw); go_simp; (try with_reducible rfl))
            try simp only [pa, pb, pc, Act.put, pe, pf, pg]
            refine tk (i := 15) (v := ?_) rfl (Or.inl ⟨by rfl, ?_⟩) (by assumption) ?_
            rotate_left
            · (intro w hSw; (try dsimp only at hSw); go_simp; (try with_reducible rfl))
            try simp only [pa, pb, pc, Act.put, pe, pf, pg]
            refine tk (i := 16) (v := ?_) rfl (Or.inl ⟨by rfl, ?_⟩) (by assumption) ?_
            rotate_left
            · (intro w hSw; (try dsimp only at hSw); go_simp; (try with_reducible rfl))
            try simp only [pa, pb, pc, Act.put, pe, pf, pg]
            refine tk (i := 17) (v := ?_) rfl (Or.inl ⟨by rfl, ?_⟩) (by assumption) ?_
            rotate_left
            · (intro w hSw; (try dsimp only at hSw); go_simp; (try with_reducible rfl))
            try simp only [pa, pb, pc, Act.put, pe, pf, pg]
            refine tk (i := 18) (v := ?_) rfl (Or.inl ⟨by rfl, ?_⟩) (by assumption) ?_
            rotate_left
            · (intro w hSw; (try dsimp only at hSw); go_simp; (try with_reducible rfl))
            try simp only [pa, pb, pc, Act.put, pe, pf, pg]
            refine tk (i := 19) (v := ?_) rfl (Or.inl ⟨by rfl, ?_⟩) (by assumption) ?_
            rotate_left
            · (intro w hSw; (try dsimp only at hSw); go_simp; (try with_reducible rfl))
            try simp only [pa, pb, pc, Act.put, pe, pf, pg]
            refine tk (i := 20) (v := ?_) rfl (Or.inl ⟨by rfl, ?_⟩) (by assumption) ?_
            rotate_left
            · (intro w hSw; (try dsimp only at hSw); go_simp; (try with_reducible rfl))
            try simp only [pa, pb, pc, Act.put, pe, pf, pg]
            refine tk (i := 21) (v := ?_) rfl (Or.inl ⟨by rfl, ?_⟩) (by assumption) ?_
            rotate_left
            · (intro w hSw; (try dsimp only at hSw); go_simp; (try with_reducible rfl))
            try simp only [pa, pb, pc, Act.put, pe, pf, pg]
            refine tk (i := 22) (v := ?_) rfl (Or.inl ⟨by rfl, ?_⟩) (by assumption) ?_
            rotate_left
            · (intro w hSw; (try dsimp only at hSw); go_simp; (try with_reducible rfl))
            try simp only [pa, pb, pc, Act.put, pe, pf, pg]
            refine tk (i := 23) (v := ?_) rfl (Or.inl ⟨by rfl, ?_⟩) (by assumption) ?_
            rotate_left
            · (intro w hSw; (try dsimp only at hSw); go_simp; (try with_reducible rfl))
            try simp only [pa, pb, pc, Act.put, pe, pf, pg]
            refine wpAnyH_done (by kernel_rfl) ?_ _
            go_wp2_with fail
            go_ret
            rw [HF.out]
            exact ⟨rfl, HB2.out⟩
          · have hled : decide (xi ≤ y) = false := decide_eq_false hle
            have HLE := Lib.hid hle; clear hle
            refine wp_region_held_drew (S := fun w' => w'.cell? ⟨g, off + k * 4, none⟩ = some (.int .i64 xi) ∧ w'.cell? ⟨g, off + k * 4 + 1, none⟩ = some (.string xn) ∧ w'.cell? ⟨g, off + k * 4 + 2, none⟩ = some (.int .i64 xf) ∧ w'.cell? ⟨g, off + k * 4 + 3, none⟩ = some (.bool xp) ∧ w'.cell? ⟨g, off + (k - 1) * 4, none⟩ = some (.int .i64 y)) (by kernel_rfl) (⟨(HX.out).c0, (HX.out).c1, (HX.out).c2, (HX.out).c3, HP1.out⟩) (fun hHeld => ?_)
            refine tk (i := 0) (v := ?_) rfl (Or.inl ⟨by rfl, ?_⟩) (by assumption) ?_
            rotate_left
            · (intro w hSw; (try dsimp only at hSw); go_simp; (try with_reducible rfl))
            try simp only [pa, pb, pc, Act.put, pe, pf, pg]
            refine tk (i := 1) (v := ?_) rfl (Or.inl ⟨by rfl, ?_⟩) (by assumption) ?_
            rotate_left
            · (intro w hSw; (try dsimp only at hSw); go_simp; (try with_reducible rfl))
            try simp only [pa, pb, pc, Act.put, pe, pf, pg]
            refine tk (i := 2) (v := ?_) rfl (Or.inl ⟨by rfl, ?_⟩) (by assumption) ?_
            rotate_left
            · (intro w hSw; (try dsimp only at hSw); go_simp; (try with_reducible rfl))
            try simp only [pa, pb, pc, Act.put, pe, pf, pg]
            refine tk (i := 3) (v := ?_) rfl (Or.inl ⟨by rfl, ?_⟩) (by assumption) ?_
            rotate_left
            · (intro w hSw; (try dsimp only at hSw); go_simp; (try with_reducible rfl))
            try simp only [pa, pb, pc, Act.put, pe, pf, pg]
            refine wpAnyH_ready (rs := [4]) (by kernel_rfl) (by simp) (AllReadyH.cons rfl (fun K hK => ?_) AllReadyH.nil)
            go_simp
            refine (HCALL.out _).mono ?_
            rintro e w2 ⟨rfl, b2⟩
            rw [hnd]
            replace b2 := below_two (Below.drew (Below.refl wr.heap.size wr)) b2
            have HX2 := Lib.hid (HX.out.below b2 HG.out)
            have HB2 := Lib.hid (below_two HB0.out b2)
            have HR2 := Lib.hid (HRb.out.below b2)
            have HP2 := Lib.hid ((b2.cell (p := ⟨g, off + (k - 1) * 4, none⟩) HG.out).trans HP1.out)
            clear b2
            go_wp2_with fail
            refine hK.out _ _ ?_ (fun hHeld => ?_)
            · exact ⟨(HX2.out).c0, (HX2.out).c1, (HX2.out).c2, (HX2.out).c3, HP2.out⟩
            clear hK K
            try simp only [pa, pb, pc, Act.put, pe, pf, pg]
            refine tk (i := 5) (v := ?_) rfl (Or.inl ⟨by rfl, ?_⟩) (by assumption) ?_
            rotate_left
            · (intro w hSw; (try dsimp only at hSw); go_simp; (try with_reducible rfl))
            try simp only [pa, pb, pc, Act.put, pe, pf, pg]
            refine tk (i := 6) (v := ?_) rfl (Or.inl ⟨by rfl, ?_⟩) (by assumption) ?_
            rotate_left
            · (intro w hSw; (try dsimp only at hSw); go_simp; (try with_reducible rfl))
            try simp only [pa, pb, pc, Act.put, pe, pf, pg]
            refine tk (i := 7) (v := ?_) rfl (Or.inl ⟨by rfl, ?_⟩) (by assumption) ?_
            rotate_left
            · (intro w hSw; (try dsimp only at hSw); go_simp; (try with_reducible rfl))
            try simp only [pa, pb, pc, Act.put, pe, pf, pg]
            refine tk (i := 8) (v := ?_) rfl (Or.inl ⟨by rfl, ?_⟩) (by assumption) ?_
            rotate_left
            · (intro w hSw; (try dsimp only at hSw); go_simp; (try with_reducible rfl))
            try simp only [pa, pb, pc, Act.put, pe, pf, pg]
            refine tk (i := 9) (v := ?_) rfl (Or.inl ⟨by rfl, ?_⟩) (by assumption) ?_
            rotate_left
            · (intro w hSw; (try dsimp only at hSw); go_simp; (try with_reducible rfl))
            try simp only [pa, pb, pc, Act.put, pe, pf, pg]
            refine tk (i := 10) (v := ?_) rfl (Or.inl ⟨by rfl, ?_⟩) (by assumption) ?_
            rotate_left
            · (intro w hSw; (try dsimp only at hSw); go_simp; (try with_reducible rfl))
            try simp only [pa, pb, pc, Act.put, pe, pf, pg]
            refine tk (i := 11) (v := ?_) rfl (Or.inl ⟨by rfl, ?_⟩) (by assumption) ?_
            rotate_left
            · (intro w hSw; (try dsimp only at hSw); go_simp; (try with_reducible rfl))
            try simp only [pa, pb, pc, Act.put, pe, pf, pg]
            refine tk (i := 12) (v := ?_) rfl (Or.inl ⟨by rfl, ?_⟩) (by assumption) ?_
            rotate_left
            · (intro w hSw; (try dsimp only at hSw); go_simp; (try with_reducible rfl))
            try simp only [pa, pb, pc, Act.put, pe, pf, pg]
            refine tk (i := 13) (v := ?_) rfl (Or.inl ⟨by rfl, ?_⟩) (by assumption) ?_
            rotate_left
            · (intro w hSw; (try dsimp only at hSw); go_simp; (try with_reducible rfl))
            try simp only [pa, pb, pc, Act.put, pe, pf, pg]
            refine tk (i := 14) (v := ?_) rfl (Or.inl ⟨by rfl, ?_⟩) (by assumption) ?_
            rotate_left
            · (intro w hSw; (try dsimp only at hSw); go_simp; (try with_reducible rfl))
            try simp only [pa, pb, pc, Act.put, pe, pf, pg]
            refine tk (i := 15) (v := ?_) rfl (Or.inl ⟨by rfl, ?_⟩) (by assumption) ?_
            rotate_left
            · (intro w hSw; (try dsimp only at hSw); go_simp; (try with_reducible rfl))
            try simp only [pa, pb, pc, Act.put, pe, pf, pg]
            refine tk (i := 16) (v := ?_) rfl (Or.inl ⟨by rfl, ?_⟩) (by assumption) ?_
            rotate_left
            · (intro w hSw; (try dsimp only at hSw); go_simp; (try with_reducible rfl))
            try simp only [pa, pb, pc, Act.put, pe, pf, pg]
            refine tk (i := 17) (v := ?_) rfl (Or.inl ⟨by rfl, ?_⟩) (by assumption) ?_
            rotate_left
            · (intro w hSw; (try dsimp only at hSw); go_simp; (try with_reducible rfl))
            try simp only [pa, pb, pc, Act.put, pe, pf, pg]
            refine tk (i := 18) (v := ?_) rfl (Or.inl ⟨by rfl, ?_⟩) (by assumption) ?_
            rotate_left
            · (intro w hSw; (try dsimp only at hSw); go_simp; (try with_reducible rfl))
            try simp only [pa, pb, pc, Act.put, pe, pf, pg]
            refine tk (i := 19) (v := ?_) rfl (Or.inl ⟨by rfl, ?_⟩) (by assumption) ?_
            rotate_left
            · (intro w hSw; (try dsimp only at hSw); go_simp; (try with_reducible rfl))
            try simp only [pa, pb, pc, Act.put, pe, pf, pg]
            refine tk (i := 20) (v := ?_) rfl (Or.inl ⟨by rfl, ?_⟩) (by assumption) ?_
            rotate_left
            · (intro w hSw; (try dsimp only at hSw); go_simp; (try with_reducible rfl))
            try simp only [pa, pb, pc, Act.put, pe, pf, pg]
            refine tk (i := 21) (v := ?_) rfl (Or.inl ⟨by rfl, ?_⟩) (by assumption) ?_
            rotate_left
            · (intro w hSw; (try dsimp only at hSw); go_simp; (try with_reducible rfl))
            try simp only [pa, pb, pc, Act.put, pe, pf, pg]
            refine tk (i := 22) (v := ?_) rfl (Or.inl ⟨by rfl, ?_⟩) (by assumption) ?_
            rotate_left
            · (intro w hSw; (try dsimp only at hSw); go_simp; (try with_reducible rfl))
            try simp only [pa, pb, pc, Act.put, pe, pf, pg]
            refine tk (i := 23) (v := ?_) rfl (Or.inl ⟨by rfl, ?_⟩) (by assumption) ?_
            rotate_left
            · (intro w hSw; (try dsimp only at hSw); go_simp; (try with_reducible rfl))
            try simp only [pa, pb, pc, Act.put, pe, pf, pg]
            refine wpAnyH_done (by kernel_rfl) ?_ _
            go_wp2_with fail
            have HYN := Lib.hid (fun h => HYES.out (E4.out hnd HLE.out h)); have HNN := Lib.hid (fun h => HNO.out (E3.out h))
            clear E1 E2 E3 E4 HNO HYES
            go_loopw [4] (fun i wr2 => ∃ m : Nat, m ≤ k ∧ i = .int .i64 m ∧ (∃ q, wr2 = w2.drewN q) ∧ Hid (hasNm (t.take m) xn = false)) (fun i _ => k - (intOf i).toNat)
            case atStart => exact ⟨0, Nat.zero_le _, rfl, ⟨0, rfl⟩, rfl⟩
            case round =>
              obtain ⟨m, hm, rfl, ⟨q, rfl⟩, hnames⟩ := hrel
              by_cases hmk : m < k
              · obtain ⟨g', off', e, -, hz⟩ := HR2.out.at (i := m) (by omega)
                obtain ⟨g'', off'', e', -, hx⟩ := HR2.out.at (i := k) hlt
                cases e; cases e'
                rw [← HXE.out] at hx
                have hs1 := hasNm_succ (t := t) (s := xn) (k := m) (by rw [HL.out]; omega) hnames.out
                have hs2 := hasNm_yes (t := t.take k) (s := xn) (k := m) (by rw [List.length_take, HL.out]; omega)
                rw [ndOf_take hmk] at hs2
                obtain ⟨z, hze⟩ : ∃ z, z = ndOf t m := ⟨_, rfl⟩
                rw [← hze] at hz hs1 hs2
                have HS1 := Lib.hid hs1; have HS2 := Lib.hid hs2; clear hs1 hs2 hze
                obtain ⟨-, hz1, -, -⟩ := hz
                obtain ⟨-, hx1, -, -⟩ := hx
                have hbq := Lib.bytes_beq_iff z.name xn
                have hd : (z.name.toList == xn.toList) = decide (z.name = xn) := by rw [Bool.eq_iff_iff, hbq, decide_eq_true_eq]
                rcases hc : decide (z.name = xn) with _ | _
                · rw [hc] at hd
                  have HC := Lib.hid (HS1.out hc); clear hc hbq HS1 HS2
                  go_wp2_with fail
                  go_quiet (fail)
                  go_wp2_with fail
                  go_roundw
                  case rel => exact ⟨m + 1, by omega, by go_num, ⟨_, rfl⟩, HC.out⟩
                  case measure => simp [intOf]; omega
                · rw [hc] at hd
                  have HF := Lib.hid (HNN.out (HS2.out hc)); clear hc hbq HS1 HS2
                  go_wp2_with fail
                  go_quiet (fail)
                  go_wp2_with fail
                  go_ret
                  rw [HF.out]
                  exact ⟨rfl, below_drewN' (below_drewN' HB2.out _) _⟩
              · have hmk : m = k := by omega
                subst hmk
                have HOK := Lib.hid (HYN.out hnames.out)
                go_wp2_with fail
                go_roundw
                case rel => exact ⟨m + 1, by omega, by go_num, below_drewN' HB2.out _, HOK.out⟩
                case measure => simp [intOf]; omega
    · have hkn : k = n := by omega
      subst hkn
      have HB := Lib.hid hb; clear hb
      have HF := Lib.hid (table_ok (t := t) (by rw [HL.out]; exact hin) (by rw [HL.out]; exact hall.out))
      go_wp2_with fail
      go_ret
      rw [HF.out]
      exact ⟨rfl, HB.out⟩
end

section
open Go.RowKit
theorem av_no {t : List Nd} (h : isTable t = false) : activeVector t = (0, 1) := by unfold activeVector; rw [if_neg (by rw [h]; simp)]
theorem av_yes {t : List Nd} (h : isTable t = true) : activeVector t = (((actTo t t.length : Nat) : Int), 0) := by unfold activeVector; rw [if_pos h]
theorem act_pas {t : List Nd} {k : Nat} (h : (ndOf t k).pas = true) : actTo t (k + 1) = actTo t k := by rw [actTo, if_pos h]
theorem act_act {t : List Nd} {k : Nat} (h : (ndOf t k).pas = false) : actTo t (k + 1) = setN (actTo t k) (ndOf t k).id.toNat true := by rw [actTo, if_neg (by rw [h]; simp)]
theorem activeVector_any (ao : Option Addr) (n cap : Nat) (t : List Nd) (w : World) (hr : RdN w ao n t) (hn : n ≤ cap) (hcap : cap ≤ 9223372036854775807) (hs : smallN t) :
    Calls Tryz.prog 203 #[.slice ao n cap] w fun e w' => e = .returned (.tuple #[.int .i64 (activeVector t).1, .int .i64 (activeVector t).2]) ∧ Below w.heap.size w w' := by
  have hcall := Lib.hid (isTable_any ao n cap t w hr hn hcap hs)
  rcases ht : isTable t with _ | _
  · rw [av_no ht]
    clear hr hs
    go_enter Tryz.func203, Tryz.ntmps203
    go_wp2_with (go_at_call 139; refine hcall.out.mono ?_; rintro e w1 ⟨rfl, b1⟩; rw [ht])
    go_ret2
    exact ⟨rfl, b1⟩
  rw [av_yes ht]
  have HR := Lib.hid hr
  have HL := Lib.hid hr.len
  have HT := Lib.hid ht
  clear hr hs
  go_enter Tryz.func203, Tryz.ntmps203
  go_wp2_with (go_at_call 139; refine hcall.out.mono ?_; rintro e w1 ⟨rfl, b1⟩; rw [ht])
  have HR1 := Lib.hid (HR.out.below b1)
  have HB := Lib.hid b1; clear b1 HR hcall
  go_loopw [4, 12] (fun a i wr => ∃ k : Nat, k ≤ n ∧ i = .int .i64 k ∧ a = .int .i64 (actTo t k : Nat) ∧ Below w1.heap.size w1 wr) (fun _ i _ => n - (intOf i).toNat)
  case atStart => exact ⟨0, Nat.zero_le _, rfl, rfl, Below.refl _ _⟩
  case round =>
    obtain ⟨k, hk, rfl, rfl, hb⟩ := hrel
    by_cases hlt : k < n
    · obtain ⟨g, off, rfl, hg, hx⟩ := HR1.out.at hlt
      replace hx := hx.below hb hg
      have hid := (isNd_iff.1 (table_nd HT.out (i := k) (by rw [HL.out]; exact hlt))).1
      have hal := actTo_lt HT.out k (by rw [HL.out]; exact hk)
      have e1 := act_pas (t := t) (k := k)
      have e2 := act_act (t := t) (k := k)
      obtain ⟨a2, ha2⟩ : ∃ a2, a2 = actTo t (k + 1) := ⟨_, rfl⟩
      rw [← ha2] at e1 e2
      obtain ⟨x, hxe⟩ : ∃ x, x = ndOf t k := ⟨_, rfl⟩
      rw [← hxe] at hx hid e1 e2
      obtain ⟨a, ha⟩ : ∃ a, a = actTo t k := ⟨_, rfl⟩
      rw [← ha] at hal e1 e2 ⊢
      have HA2 := Lib.hid ha2; have E1 := Lib.hid e1; have E2 := Lib.hid e2; clear ha2 hxe ha e1 e2
      have HB1 := Lib.hid hb; clear hb
      have bb := fun X => below_two HB1.out ((Below.refl wr.heap.size wr).alloc (Nat.le_refl _) X)
      have BB := Lib.hid bb; clear bb
      obtain ⟨xi, xn, xf, xp⟩ := x
      obtain ⟨h0, h1, h2, h3⟩ := hx
      dsimp only at *
      obtain ⟨q, rfl⟩ := Int.eq_ofNat_of_zero_le hid.1
      have hq : q < 32 := by omega
      clear hid
      rcases xp with _ | _
      · have HE := Lib.hid (E2.out rfl); clear E1 E2
        go_wp2_with (go_at_call 231; refine (with_any _ _ _ hal hq).mono ?_; rintro e w2 ⟨rfl, rfl⟩)
        go_roundw
        case rel => exact ⟨k + 1, by omega, by go_num, by rw [← HA2.out, HE.out, Int.toNat_natCast], BB.out _⟩
        case measure => simp [intOf]; omega
      · have HE := Lib.hid (E1.out rfl); clear E1 E2
        go_wp2_with fail
        go_roundw
        case rel => exact ⟨k + 1, by omega, by go_num, by rw [← HA2.out, HE.out], BB.out _⟩
        case measure => simp [intOf]; omega
    · have hkn : k = n := by omega
      subst hkn
      have HB1 := Lib.hid hb; clear hb
      go_wp2_with fail
      go_ret2
      rw [HL.out]
      exact ⟨rfl, below_two HB.out HB1.out⟩
theorem l10Active_any (ao : Option Addr) (n cap : Nat) (t : List Nd) (w : World) (hr : RdN w ao n t) (hn : n ≤ 9223372036854775807) (ht : isTable t = true) :
    Calls Tryz.prog 126 #[.slice ao n cap] w fun e w' => e = .returned (.int .i64 (actTo t t.length : Nat)) ∧ w = w' := by
  have HR := Lib.hid hr
  have HL := Lib.hid hr.len
  have HT := Lib.hid ht
  clear hr ht
  go_enter Tryz.func126, Tryz.ntmps126
  go_wp2_with fail
  go_loopw [3, 4] (fun a i wr => ∃ k : Nat, k ≤ n ∧ i = .int .i64 k ∧ a = .int .i64 (actTo t k : Nat) ∧ wr = w) (fun _ i _ => n - (intOf i).toNat)
  case atStart => exact ⟨0, Nat.zero_le _, rfl, rfl, rfl⟩
  case round =>
    obtain ⟨k, hk, rfl, rfl, rfl⟩ := hrel
    by_cases hlt : k < n
    · obtain ⟨g, off, rfl, hg, hx⟩ := HR.out.at hlt
      have hid := (isNd_iff.1 (table_nd HT.out (i := k) (by rw [HL.out]; exact hlt))).1
      have hal := actTo_lt HT.out k (by rw [HL.out]; exact hk)
      have e1 := act_pas (t := t) (k := k)
      have e2 := act_act (t := t) (k := k)
      obtain ⟨a2, ha2⟩ : ∃ a2, a2 = actTo t (k + 1) := ⟨_, rfl⟩
      rw [← ha2] at e1 e2
      obtain ⟨x, hxe⟩ : ∃ x, x = ndOf t k := ⟨_, rfl⟩
      rw [← hxe] at hx hid e1 e2
      obtain ⟨a, ha⟩ : ∃ a, a = actTo t k := ⟨_, rfl⟩
      rw [← ha] at hal e1 e2 ⊢
      have HA2 := Lib.hid ha2; have E1 := Lib.hid e1; have E2 := Lib.hid e2; clear ha2 hxe ha e1 e2
      obtain ⟨xi, xn, xf, xp⟩ := x
      obtain ⟨h0, h1, h2, h3⟩ := hx
      dsimp only at *
      obtain ⟨q, rfl⟩ := Int.eq_ofNat_of_zero_le hid.1
      have hq : q < 32 := by omega
      clear hid
      rcases xp with _ | _
      · have HE := Lib.hid (E2.out rfl); clear E1 E2
        go_wp2_with (go_at_call 166; refine (l05Set_any _ _ _ _ hal hq).mono ?_; rintro e w2 ⟨rfl, rfl⟩)
        go_roundw
        case rel => exact ⟨k + 1, by omega, by go_num, by rw [← HA2.out, HE.out, Int.toNat_natCast], trivial⟩
        case measure => simp [intOf]; omega
      · have HE := Lib.hid (E1.out rfl); clear E1 E2
        go_wp2_with fail
        go_roundw
        case rel => exact ⟨k + 1, by omega, by go_num, by rw [← HA2.out, HE.out], trivial⟩
        case measure => simp [intOf]; omega
    · have hkn : k = n := by omega
      subst hkn
      go_wp2_with fail
      go_ret
      rw [HL.out]
      exact ⟨rfl, rfl⟩
end

section
open Go.RowKit
def setNd (w : World) (b off : Nat) (x : Nd) : World := (((w.setCell ⟨b, off, none⟩ (.int .i64 x.id)).setCell ⟨b, off + 1, none⟩ (.string x.name)).setCell ⟨b, off + 2, none⟩ (.int .i64 x.drift)).setCell ⟨b, off + 3, none⟩ (.bool x.pas)
section
variable {T b : Nat} {w : World} {d : Int} {s : ByteArray} {f : Int} {p : Bool}
theorem NdAt.set0 (h : NdAt T w b ⟨d, s, f, p⟩) (z : Int) : NdAt T (w.setCell ⟨b, 0, none⟩ (.int .i64 z)) b ⟨z, s, f, p⟩ := by
  have := heap_setCell_same w b 0 _ _ (.int .i64 z) h
  simpa [NdAt] using this
theorem NdAt.set1 (h : NdAt T w b ⟨d, s, f, p⟩) (z : ByteArray) : NdAt T (w.setCell ⟨b, 1, none⟩ (.string z)) b ⟨d, z, f, p⟩ := by
  have := heap_setCell_same w b 1 _ _ (.string z) h
  simpa [NdAt] using this
theorem NdAt.set2 (h : NdAt T w b ⟨d, s, f, p⟩) (z : Int) : NdAt T (w.setCell ⟨b, 2, none⟩ (.int .i64 z)) b ⟨d, s, z, p⟩ := by
  have := heap_setCell_same w b 2 _ _ (.int .i64 z) h
  simpa [NdAt] using this
theorem NdAt.set3 (h : NdAt T w b ⟨d, s, f, p⟩) (z : Bool) : NdAt T (w.setCell ⟨b, 3, none⟩ (.bool z)) b ⟨d, s, f, z⟩ := by
  have := heap_setCell_same w b 3 _ _ (.bool z) h
  simpa [NdAt] using this
end
theorem NdAt.put {T b : Nat} {w : World} {x : Nd} (h : NdAt T w b x) (y : Nd) : NdAt T (setNd w b 0 y) b y := by
  obtain ⟨d, s, f, p⟩ := x
  exact (((h.set0 y.id).set1 y.name).set2 y.drift).set3 y.pas
theorem NdAt.other {T b c off : Nat} {w : World} {x y : Nd} (h : NdAt T w b x) (hne : b ≠ c) : NdAt T (setNd w c off y) b x :=
  (heap_setCell_other _ _ _ _ hne).trans ((heap_setCell_other _ _ _ _ hne).trans ((heap_setCell_other _ _ _ _ hne).trans ((heap_setCell_other _ _ _ _ hne).trans h)))
end

section
open Go.RowKit
theorem ndOf_set {t : List Nd} {k : Nat} (h : k < t.length) (y : Nd) : ndOf (t.set k y) k = y := by simp [ndOf, List.getD, h]
theorem flatN_set : ∀ (t : List Nd) (k : Nat), k < t.length → ∀ (j : Nat) (u : Value) (y : Nd), ndCells y = (ndCells (ndOf t k)).set j u → j < 4 → (t.flatMap ndCells).set (k * 4 + j) u = (t.set k y).flatMap ndCells
  | [], _, h, _, _, _, _, _ => by simp at h
  | a :: r, 0, _, j, u, y, e, hj => by
    have e2 : ndOf (a :: r) 0 = a := by simp [ndOf]
    rw [e2] at e
    rw [List.set_cons_zero, List.flatMap_cons, List.flatMap_cons, e, Nat.zero_mul, Nat.zero_add]
    rw [List.set_append_left _ _ (by simp [ndCells]; omega)]
  | a :: r, k + 1, h, j, u, y, e, hj => by
    have e2 : ndOf (a :: r) (k + 1) = ndOf r k := by simp [ndOf]
    rw [e2] at e
    rw [List.set_cons_succ, List.flatMap_cons, List.flatMap_cons, List.set_append_right _ _ (by simp [ndCells]; omega)]
    rw [show (k + 1) * 4 + j - (ndCells a).length = k * 4 + j from by simp [ndCells]; omega, flatN_set r k (by simpa using h) j u y e hj]
section
variable {E : Nat} {w : World} {base g n cap : Nat} {t : List Nd}
theorem OwnN.field (ho : OwnN E w base (.slice (some ⟨g, 0, none⟩) n cap) t) (hl : t.length = n) {k : Nat} (hk : k < n) {j : Nat} (hj : j < 4) {u : Value} {y : Nd} (e : ndCells y = (ndCells (ndOf t k)).set j u) :
    w.frozen? ⟨g, k * 4 + j, none⟩ = false ∧ OwnN E (w.setCell ⟨g, k * 4 + j, none⟩ u) base (.slice (some ⟨g, 0, none⟩) n cap) (t.set k y) ∧ Below base w (w.setCell ⟨g, k * 4 + j, none⟩ u) := by
  have hb := (ho.block g rfl).1
  unfold OwnN at ho ⊢
  rw [hl] at ho
  refine ⟨World.ownsRow.frozenAt ho _, ?_, (Below.refl _ _).setCell (by exact hb) _⟩
  have h := (World.ownsRow.stored ho (k * 4 + j) u).1
  rw [flatN_set t k (by omega) j u y e hj] at h
  rw [List.length_set, hl]
  exact h
theorem OwnN.store (ho : OwnN E w base (.slice (some ⟨g, 0, none⟩) n cap) t) (hl : t.length = n) {k : Nat} (hk : k < n) (x : Nd) :
    NdIn w g (k * 4) (ndOf t k) ∧ (w.frozen? ⟨g, k * 4, none⟩ = false ∧ w.frozen? ⟨g, k * 4 + 1, none⟩ = false ∧ w.frozen? ⟨g, k * 4 + 2, none⟩ = false ∧ w.frozen? ⟨g, k * 4 + 3, none⟩ = false) ∧
      OwnN E (setNd w g (k * 4) x) base (.slice (some ⟨g, 0, none⟩) n cap) (t.set k x) ∧ Below base w (setNd w g (k * 4) x) := by
  have hin : NdIn w g (k * 4) (ndOf t k) := by
    obtain ⟨ao, cap', e, r, -⟩ := ho.form
    cases e
    obtain ⟨b, off, e, -, h⟩ := r.at (i := k) (by omega)
    cases e
    rwa [Nat.zero_add] at h
  have hkt : k < t.length := by omega
  generalize hz : ndOf t k = z at hin ⊢
  obtain ⟨f0, o0, b0⟩ := ho.field (j := 0) (u := .int .i64 x.id) (y := ⟨x.id, z.name, z.drift, z.pas⟩) hl hk (by omega) (by rw [hz]; rfl)
  obtain ⟨f1, -, -⟩ := ho.field (j := 1) (u := .string x.name) (y := ⟨z.id, x.name, z.drift, z.pas⟩) hl hk (by omega) (by rw [hz]; rfl)
  obtain ⟨f2, -, -⟩ := ho.field (j := 2) (u := .int .i64 x.drift) (y := ⟨z.id, z.name, x.drift, z.pas⟩) hl hk (by omega) (by rw [hz]; rfl)
  obtain ⟨f3, -, -⟩ := ho.field (j := 3) (u := .bool x.pas) (y := ⟨z.id, z.name, z.drift, x.pas⟩) hl hk (by omega) (by rw [hz]; rfl)
  obtain ⟨-, o1, b1⟩ := o0.field (j := 1) (u := .string x.name) (y := ⟨x.id, x.name, z.drift, z.pas⟩) (by rw [List.length_set]; exact hl) hk (by omega) (by rw [ndOf_set hkt]; rfl)
  rw [List.set_set] at o1
  obtain ⟨-, o2, b2⟩ := o1.field (j := 2) (u := .int .i64 x.drift) (y := ⟨x.id, x.name, x.drift, z.pas⟩) (by rw [List.length_set]; exact hl) hk (by omega) (by rw [ndOf_set hkt]; rfl)
  rw [List.set_set] at o2
  obtain ⟨-, o3, b3⟩ := o2.field (j := 3) (u := .bool x.pas) (y := x) (by rw [List.length_set]; exact hl) hk (by omega) (by rw [ndOf_set hkt]; rfl)
  rw [List.set_set] at o3
  exact ⟨hin, ⟨f0, f1, f2, f3⟩, o3, (((b0.trans b1).trans b2).trans b3)⟩
end
abbrev InfoNd (P : Program) (E : Nat) : Prop := (P.info? E).map (fun i => (i.zero, i.size, i.bytes)) = some (some (ndVal Nd.zero), 4, 40)
theorem info_parts_n {P : Program} {E : Nat} (h : InfoNd P E) : ∃ i, P.info? E = some i ∧ i.zero = some (ndVal Nd.zero) ∧ i.size = 4 ∧ i.bytes = 40 := by
  unfold InfoNd at h
  cases hi : P.info? E with
  | none => rw [hi] at h; cases h
  | some i =>
    rw [hi] at h
    simp only [Option.map_some, Option.some.injEq, Prod.mk.injEq] at h
    exact ⟨i, rfl, h.1, h.2.1, h.2.2⟩
theorem cells_zero : (ndVal Nd.zero).cells = #[.int .i64 0, .string ByteArray.empty, .int .i64 0, .bool false] := rfl
theorem madeN (n : Nat) : (madeCells (ndVal Nd.zero).cells (n * 4)).toList = (List.replicate n Nd.zero).flatMap ndCells := by
  apply List.ext_getElem?
  intro i
  by_cases h : i < n * 4
  · have hi : i = (i / 4) * 4 + i % 4 := by omega
    have h4 : i % 4 < 4 := by omega
    conv => rhs; rw [hi]
    rw [flatN_get _ _ _ (by rw [List.length_replicate]; omega) h4]
    have hz : ndOf (List.replicate n Nd.zero) (i / 4) = Nd.zero := by
      rw [ndOf_get (by rw [List.length_replicate]; omega), List.getElem_replicate]
    rw [hz, cells_zero]
    unfold madeCells
    rw [Array.toList_map, List.getElem?_map, Array.toList_range, List.getElem?_range h]
    simp only [Option.map_some]
    have h5 : #[Value.int .i64 0, .string ByteArray.empty, .int .i64 0, .bool false].size = 4 := rfl
    rw [h5]
    generalize i % 4 = j at h4
    match j, h4 with
    | 0, _ => rfl
    | 1, _ => rfl
    | 2, _ => rfl
    | 3, _ => rfl
  · rw [List.getElem?_eq_none (by rw [Array.length_toList, size_madeCells]; omega), List.getElem?_eq_none (by rw [flatN_len, List.length_replicate]; omega)]
section
variable {P : Program} {E T : Nat} (w : World) {ops : Array Oper} {rest : List Oper} {o : Oper} {a : Act} {Q : Exit → Act → World → Prop}
theorem make_nd (hg : o.guard = none) (l c : Operand) (hop : o.op = Op.makeSlice T l c) (base : Nat) (ht : P.underlying T = some (.slice E)) (hi : InfoNd P E)
    (kl kc : IntKind) (L C : Int) (n : Nat) (hl : a.eval l = .int kl L) (hc : a.eval c = .int kc C) (hL : L = (n : Int)) (hC : C = (n : Int)) (hm : n ≤ 4294967296) (hb : base ≤ w.heap.size)
    (hK : ∀ w', OwnN E w' base (.slice (some ⟨w.heap.size, 0, none⟩) n n) (List.replicate n Nd.zero) → Below base w w' → wpList P ops Q rest (a.put o.dst (.slice (some ⟨w.heap.size, 0, none⟩) n n)) w') :
    wpList P ops Q (o :: rest) a w := by
  obtain ⟨i0, hi, hz0, hz1, hz2⟩ := info_parts_n hi
  refine wpList_make_full w hg l c T hop base E i0 (ndVal Nd.zero) 4 ht hi hz0 hz1 kl kc L C n hl hc hL hC (by rw [hz2]; omega) (by unfold maxLen; omega) hb ?_
  intro w' h1 h2
  refine hK w' ?_ ((Below.refl _ _).grown h2 hb (fun k h => by cases h))
  unfold OwnN
  rw [List.length_replicate, ← madeN]
  exact h1
end
end

section
open Go.RowKit
theorem infoNd : (Tryz.prog.info? 130).map (fun i => (i.zero, i.size, i.bytes)) = some (some (ndVal Nd.zero), 4, 40) := by kernel_rfl
def fillN (t : List Nd) (k : Nat) : List Nd := t.take k ++ List.replicate (t.length - k) Nd.zero
theorem fillN_len (t : List Nd) (k : Nat) (hk : k ≤ t.length) : (fillN t k).length = t.length := by
  unfold fillN; rw [List.length_append, List.length_take, List.length_replicate]; omega
theorem fillN_zero (t : List Nd) : fillN t 0 = List.replicate t.length Nd.zero := by simp [fillN]
theorem fillN_all (t : List Nd) : fillN t t.length = t := by simp [fillN]
theorem fillN_succ (t : List Nd) (k : Nat) (hk : k < t.length) : (fillN t k).set k (ndOf t k) = fillN t (k + 1) := by
  have hm : min k t.length = k := by omega
  unfold fillN
  rw [ndOf_getD t k hk, List.set_append_right _ _ (by rw [List.length_take]; omega)]
  rw [show t.length - k = (t.length - (k + 1)) + 1 from by omega, List.replicate_succ, List.length_take, hm, Nat.sub_self, List.set_cons_zero]
  simp
set_option maxHeartbeats 1000000 in
set_option maxRecDepth 100000 in
theorem toNodes_any (ao : Option Addr) (n cap : Nat) (t : List Nd) (w : World) (hr : RdN w ao n t) (hn : n ≤ 1048576) :
    Calls Tryz.prog 113 #[.slice ao n cap] w (MakesN 130 w t) := by
  have HL := Lib.hid hr.len
  have HR := Lib.hid hr; clear hr
  go_enter Tryz.func113, Tryz.ntmps113
  go_wp2_with (at_make; refine make_nd _ rfl _ _ rfl w.heap.size Tryz.underlying24 infoNd _ _ _ _ n rfl rfl rfl rfl (by omega) (Nat.le_refl _) ?_; intro w1 o1 b1)
  have o1' : OwnN 130 w1 w.heap.size (.slice (some ⟨w.heap.size, 0, none⟩) n n) (fillN t 0) := by rw [fillN_zero, HL.out]; exact o1
  clear o1
  go_loopw [4] (fun i wr => ∃ k : Nat, k ≤ n ∧ i = .int .i64 k ∧ OwnN 130 wr w.heap.size (.slice (some ⟨w.heap.size, 0, none⟩) n n) (fillN t k) ∧ Below w.heap.size w wr) (fun i _ => n - (intOf i).toNat)
  case atStart => exact ⟨0, Nat.zero_le _, rfl, o1', b1⟩
  case round =>
    clear o1' b1
    obtain ⟨k, hk, rfl, hown, hb⟩ := hrel
    by_cases hlt : k < n
    · have hkt : k < t.length := by rw [HL.out]; exact hlt
      obtain ⟨g, off, rfl, hg, hx⟩ := HR.out.at hlt
      replace hx := hx.below hb hg
      have hfl := fillN_len t k (by omega)
      have hsucc := fillN_succ t k hkt
      obtain ⟨x, hxe⟩ : ∃ x, x = ndOf t k := ⟨_, rfl⟩
      rw [← hxe] at hx hsucc
      have HSUCC := Lib.hid hsucc
      have HFL := Lib.hid (hfl.trans HL.out)
      have HOWN := Lib.hid hown; have HB := Lib.hid hb
      clear hsucc hfl hown hb hxe hkt
      obtain ⟨h0, h1, h2, h3⟩ := hx
      go_wp2_with fail
      refine (toNode_any x _).mono ?_
      rintro e w2 ⟨rfl, b2⟩
      clear h0 h1 h2 h3
      unfold ndVal
      have HB2 := Lib.hid (below_two HB.out b2)
      obtain ⟨hz, ⟨f0, f1, f2, f3⟩, hst, hbst⟩ := (HOWN.out.below b2).store HFL.out hlt x
      rw [HSUCC.out] at hst
      have HST := Lib.hid hst; have HBST := Lib.hid (HB2.out.trans hbst); clear hst hbst b2
      obtain ⟨z0, z1, z2, z3⟩ := hz
      generalize ndOf (fillN t k) k = z at z0 z1 z2 z3
      go_wp2_with fail
      clear z0 z1 z2 z3 f0 f1 f2 f3
      go_roundw
      case rel => exact ⟨k + 1, by omega, by go_num, HST.out, HBST.out⟩
      case measure => simp [intOf]; omega
    · have hkn : k = n := by omega
      subst hkn
      have HO := Lib.hid hown; clear hown
      go_wp2_with fail
      go_ret
      refine ⟨_, rfl, ?_, hb⟩
      have h := HO.out
      rw [← HL.out, fillN_all] at h
      have hl := HL.out
      subst hl
      exact h
def szGo : List Nd → Int → Int
  | [], m => m
  | x :: r, m => if m < x.name.size then -1 else szGo r (m - x.name.size)
def szS (t : List Nd) (m : Int) : Int := if m < t.length then -1 else szGo t (m - t.length)
theorem szGo_drop {t : List Nd} {k : Nat} (h : k < t.length) (m : Int) : szGo (t.drop k) m = if m < (ndOf t k).name.size then -1 else szGo (t.drop (k + 1)) (m - (ndOf t k).name.size) := by
  rw [List.drop_eq_getElem_cons h, szGo, ndOf_get h]
theorem szGo_names : ∀ (t : List Nd) (m : Int), 0 ≤ szGo t m → m ≤ 1048576 → smallN t
  | [], _, _, _ => fun i h => by simp at h
  | x :: r, m, h, hm => by
    rw [szGo] at h
    split at h
    · omega
    · rename_i hc
      have h1 := szGo_names r (m - x.name.size) h (by omega)
      intro i hi
      cases i with
      | zero => show (ndOf (x :: r) 0).name.size ≤ _; rw [show ndOf (x :: r) 0 = x from by simp [ndOf]]; omega
      | succ i => rw [show ndOf (x :: r) (i + 1) = ndOf r i from by simp [ndOf]]; exact h1 i (by simpa using hi)
theorem szS_ok {t : List Nd} (h : 0 ≤ szS t 1048576) : t.length ≤ 1048576 ∧ smallN t := by
  unfold szS at h
  split at h
  · omega
  · exact ⟨by omega, szGo_names _ _ h (by omega)⟩
theorem szGo_neg : ∀ (t : List Nd) (m : Int), 0 ≤ m → szGo t m = -1 ∨ (0 ≤ szGo t m ∧ szGo t m ≤ m)
  | [], m, h => .inr ⟨h, Int.le_refl _⟩
  | x :: r, m, h => by
    rw [szGo]
    split
    · exact .inl rfl
    · rcases szGo_neg r (m - x.name.size) (by omega) with h1 | h1
      · exact .inl h1
      · exact .inr ⟨h1.1, by omega⟩
theorem szS_neg (t : List Nd) : szS t 1048576 = -1 ∨ (0 ≤ szS t 1048576 ∧ szS t 1048576 ≤ 1048576) := by
  unfold szS
  split
  · exact .inl rfl
  · rcases szGo_neg t (1048576 - t.length) (by omega) with h1 | h1
    · exact .inl h1
    · exact .inr ⟨h1.1, by omega⟩
theorem szNodes_any (ao : Option Addr) (n cap : Nat) (t : List Nd) (w : World) (hr : RdN w ao n t) (hn : n ≤ 9223372036854775807) (hs : ∀ i, i < n → (ndOf t i).name.size ≤ 9223372036854775807) :
    Calls Tryz.prog 110 #[.slice ao n cap, .int .i64 1048576] w fun e w' => e = .returned (.int .i64 (szS t 1048576)) ∧ Below w.heap.size w w' := by
  have HL := Lib.hid hr.len
  have HR := Lib.hid hr; clear hr
  have HS := Lib.hid hs; clear hs
  by_cases hbig : (1048576 : Int) < n
  · have HF := Lib.hid (show szS t 1048576 = -1 from by unfold szS; rw [if_pos (by rw [HL.out]; exact hbig)])
    have hq : (1048576 : Int) - n < 0 := by omega
    have hw : IntKind.i64.wrap ((1048576 : Int) - n) = 1048576 - n := by rw [IntKind.wrap_i64]; omega
    go_enter Tryz.func110, Tryz.ntmps110
    go_wp2_with fail
    go_ret
    rw [HF.out]
    exact ⟨rfl, Below.refl _ _⟩
  have hq : ¬ (1048576 : Int) - n < 0 := by omega
  have hw : IntKind.i64.wrap ((1048576 : Int) - n) = 1048576 - n := by rw [IntKind.wrap_i64]; omega
  have HF := Lib.hid (show szS t 1048576 = szGo (t.drop 0) (1048576 - n) from by unfold szS; rw [if_neg (by rw [HL.out]; exact hbig), HL.out]; rfl)
  have hm0 : 0 ≤ (1048576 : Int) - n := by omega
  go_enter Tryz.func110, Tryz.ntmps110
  go_wp2_with fail
  clear hw
  go_loopw [1, 5] (fun l i wr => ∃ (k : Nat) (m : Int), k ≤ n ∧ i = .int .i64 k ∧ l = .int .i64 m ∧ 0 ≤ m ∧ m ≤ 1048576 ∧ Hid (szS t 1048576 = szGo (t.drop k) m) ∧ Below w.heap.size w wr) (fun _ i _ => n - (intOf i).toNat)
  case atStart => exact ⟨0, 1048576 - n, Nat.zero_le _, rfl, rfl, by omega, by omega, HF.out, Below.refl _ _⟩
  case round =>
    clear hq hm0 HF
    obtain ⟨k, m, hk, rfl, rfl, hm0, hm1, hsz, hb⟩ := hrel
    by_cases hlt : k < n
    · have hkt : k < t.length := by rw [HL.out]; exact hlt
      obtain ⟨g, off, rfl, hg, hx⟩ := HR.out.at hlt
      replace hx := hx.below hb hg
      have hss := HS.out k hlt
      have hdr := szGo_drop hkt m
      obtain ⟨x, hxe⟩ : ∃ x, x = ndOf t k := ⟨_, rfl⟩
      rw [← hxe] at hx hss hdr
      rw [← hsz.out] at hdr
      have hcall := fun W => szNode_any x m W hm0 hm1 (by omega)
      unfold ndVal at hcall
      have HCALL := Lib.hid hcall; have HDR := Lib.hid hdr; have HB := Lib.hid hb
      clear hcall hdr hxe hkt hb hsz
      obtain ⟨h0, h1, h2, h3⟩ := hx
      by_cases hc : m < x.name.size
      · have hif : (if m < (x.name.size : Int) then (-1 : Int) else m - (x.name.size : Int)) = -1 := if_pos hc
        have hF2 := HDR.out
        rw [if_pos hc] at hF2
        have HF2 := Lib.hid hF2; clear hF2
        go_wp2_with fail
        refine (HCALL.out _).mono ?_
        rintro e w2 ⟨rfl, b2⟩
        rw [hif]
        clear h0 h1 h2 h3
        go_wp2_with fail
        go_ret
        rw [HF2.out]
        exact ⟨rfl, below_two HB.out b2⟩
      · have hif : (if m < (x.name.size : Int) then (-1 : Int) else m - (x.name.size : Int)) = m - (x.name.size : Int) := if_neg hc
        have hF2 := HDR.out
        rw [if_neg hc] at hF2
        have HF2 := Lib.hid hF2; clear hF2
        go_wp2_with fail
        refine (HCALL.out _).mono ?_
        rintro e w2 ⟨rfl, b2⟩
        rw [hif]
        clear h0 h1 h2 h3 hif
        obtain ⟨m2, hm2⟩ : ∃ m2, m2 = m - (x.name.size : Int) := ⟨_, rfl⟩
        rw [← hm2] at HF2 ⊢
        have h20 : 0 ≤ m2 := by omega
        have h21 : m2 ≤ 1048576 := by omega
        have h22 : ¬ m2 < 0 := by omega
        clear hm2 hc
        go_wp2_with fail
        go_roundw
        case rel => exact ⟨k + 1, m2, by omega, by go_num, rfl, h20, h21, HF2.out, below_two HB.out b2⟩
        case measure => simp [intOf]; omega
    · have hkn : k = n := by omega
      subst hkn
      have HF2 := Lib.hid (show szS t 1048576 = m from by rw [hsz.out, List.drop_of_length_le (by rw [HL.out]; exact Nat.le_refl _)]; rfl)
      have HB := Lib.hid hb; clear hb
      go_wp2_with fail
      go_ret
      rw [HF2.out]
      exact ⟨rfl, HB.out⟩
set_option maxHeartbeats 1000000 in
set_option maxRecDepth 100000 in
set_option linter.unusedSimpArgs false in
theorem eqNodes_yes (ao bo : Option Addr) (n c d : Nat) (t : List Nd) (w : World) (hx : RdN w ao n t) (hy : RdN w bo n t) (hn : n ≤ 9223372036854775807) (hc : n ≤ c) (hd : n ≤ d) :
    Calls Tryz.prog 117 #[.slice ao n c, .slice bo n d] w fun e w' => e = .returned (.bool true) ∧ Below w.heap.size w w' := by
  have HX := Lib.hid hx; have HY := Lib.hid hy; clear hx hy
  have hne : ((n : Int) != (n : Int)) = false := by simp
  go_enter Tryz.func117, Tryz.ntmps117
  go_wp2_with fail
  clear hne
  go_loopw [5] (fun i wr => ∃ k : Nat, k ≤ n ∧ i = .int .i64 k ∧ Below w.heap.size w wr) (fun i _ => n - (intOf i).toNat)
  case atStart => exact ⟨0, Nat.zero_le _, rfl, Below.refl _ _⟩
  case round =>
    obtain ⟨k, hk, rfl, hb⟩ := hrel
    by_cases hlt : k < n
    · obtain ⟨g, off, rfl, hg, hx⟩ := HX.out.at hlt
      obtain ⟨g', off', rfl, hg', hy⟩ := HY.out.at hlt
      replace hx := hx.below hb hg
      replace hy := hy.below hb hg'
      have HB := Lib.hid hb; clear hb
      obtain ⟨x, hxe⟩ : ∃ x, x = ndOf t k := ⟨_, rfl⟩
      rw [← hxe] at hx hy
      clear hxe
      have HGX := Lib.hid hg; have HGY := Lib.hid hg'
      have HXX := Lib.hid hx; have HYY := Lib.hid hy; clear hx hy hg hg'
      have hcall := fun W => eqNode_yes x W
      unfold ndVal at hcall
      have HCALL := Lib.hid hcall; clear hcall
      obtain ⟨xi, xn, xf, xp⟩ := x
      dsimp only at *
      go_upto_region 6 with fail
      refine wp_region_held_drew (S := fun w' => w'.cell? ⟨g, off + k * 4, none⟩ = some (.int .i64 xi) ∧ w'.cell? ⟨g, off + k * 4 + 1, none⟩ = some (.string xn) ∧ w'.cell? ⟨g, off + k * 4 + 2, none⟩ = some (.int .i64 xf) ∧ w'.cell? ⟨g, off + k * 4 + 3, none⟩ = some (.bool xp) ∧ w'.cell? ⟨g', off' + k * 4, none⟩ = some (.int .i64 xi) ∧ w'.cell? ⟨g', off' + k * 4 + 1, none⟩ = some (.string xn) ∧ w'.cell? ⟨g', off' + k * 4 + 2, none⟩ = some (.int .i64 xf) ∧ w'.cell? ⟨g', off' + k * 4 + 3, none⟩ = some (.bool xp)) (by kernel_rfl) (⟨HXX.out.c0, HXX.out.c1, HXX.out.c2, HXX.out.c3, HYY.out.c0, HYY.out.c1, HYY.out.c2, HYY.out.c3⟩) (fun hHeld => ?_)
      refine tk (i := 0) (v := ?_) rfl (Or.inl ⟨by rfl, ?_⟩) (by assumption) ?_
      rotate_left
      · (intro w hSw; (try dsimp only at hSw); go_simp; (try with_reducible rfl))
      try simp only [pa, pb, pc, Act.put, pe, pf, pg]
      refine tk (i := 1) (v := ?_) rfl (Or.inl ⟨by rfl, ?_⟩) (by assumption) ?_
      rotate_left
      · (intro w hSw; (try dsimp only at hSw); go_simp; (try with_reducible rfl))
      try simp only [pa, pb, pc, Act.put, pe, pf, pg]
      refine tk (i := 2) (v := ?_) rfl (Or.inl ⟨by rfl, ?_⟩) (by assumption) ?_
      rotate_left
      · (intro w hSw; (try dsimp only at hSw); go_simp; (try with_reducible rfl))
      try simp only [pa, pb, pc, Act.put, pe, pf, pg]
      refine tk (i := 3) (v := ?_) rfl (Or.inl ⟨by rfl, ?_⟩) (by assumption) ?_
      rotate_left
      · (intro w hSw; (try dsimp only at hSw); go_simp; (try with_reducible rfl))
      try simp only [pa, pb, pc, Act.put, pe, pf, pg]
      refine tk (i := 4) (v := ?_) rfl (Or.inl ⟨by rfl, ?_⟩) (by assumption) ?_
      rotate_left
      · (intro w hSw; (try dsimp only at hSw); go_simp; (try with_reducible rfl))
      try simp only [pa, pb, pc, Act.put, pe, pf, pg]
      refine tk (i := 5) (v := ?_) rfl (Or.inl ⟨by rfl, ?_⟩) (by assumption) ?_
      rotate_left
      · (intro w hSw; (try dsimp only at hSw); go_simp; (try with_reducible rfl))
      try simp only [pa, pb, pc, Act.put, pe, pf, pg]
      refine tk (i := 6) (v := ?_) rfl (Or.inl ⟨by rfl, ?_⟩) (by assumption) ?_
      rotate_left
      · (intro w hSw; (try dsimp only at hSw); go_simp; (try with_reducible rfl))
      try simp only [pa, pb, pc, Act.put, pe, pf, pg]
      refine tk (i := 7) (v := ?_) rfl (Or.inl ⟨by rfl, ?_⟩) (by assumption) ?_
      rotate_left
      · (intro w hSw; (try dsimp only at hSw); go_simp; (try with_reducible rfl))
      try simp only [pa, pb, pc, Act.put, pe, pf, pg]
      refine wpAnyH_ready (rs := [8]) (by kernel_rfl) (by simp) (AllReadyH.cons rfl (fun K hK => ?_) AllReadyH.nil)
      go_simp
      refine (HCALL.out _).mono ?_
      rintro e w2 ⟨rfl, b2⟩
      replace b2 := below_two (Below.drew (Below.refl wr.heap.size wr)) b2
      have HX2 := Lib.hid (HXX.out.below b2 (Nat.lt_of_lt_of_le HGX.out HB.out.size))
      have HY2 := Lib.hid (HYY.out.below b2 (Nat.lt_of_lt_of_le HGY.out HB.out.size))
      have HB2 := Lib.hid (below_two HB.out b2)
      clear b2
      go_wp2_with fail
      refine hK.out _ _ ?_ (fun hHeld => ?_)
      · exact ⟨HX2.out.c0, HX2.out.c1, HX2.out.c2, HX2.out.c3, HY2.out.c0, HY2.out.c1, HY2.out.c2, HY2.out.c3⟩
      clear hK K
      try simp only [pa, pb, pc, Act.put, pe, pf, pg]
      refine tk (i := 9) (v := ?_) rfl (Or.inl ⟨by rfl, ?_⟩) (by assumption) ?_
      rotate_left
      · (intro w hSw; (try dsimp only at hSw); go_simp; (try with_reducible rfl))
      try simp only [pa, pb, pc, Act.put, pe, pf, pg]
      refine wpAnyH_done (by kernel_rfl) ?_ _
      go_wp2_with fail
      go_roundw
      case rel => exact ⟨k + 1, by omega, by go_num, HB2.out⟩
      case measure => simp [intOf]; omega
    · have hkn : k = n := by omega
      subst hkn
      have HB := Lib.hid hb; clear hb
      go_wp2_with fail
      go_ret
      exact ⟨rfl, HB.out⟩
end

section
open Go.RowKit
def mText (k : Nat) : ByteArray := { data := #[109] } ++ decStr k
def finTo (q : Nat) (s : ByteArray) : ByteArray := if q = 0 then s else decStr q ++ s
theorem finTo_step {q : Nat} {s : ByteArray} (h : 0 < q) : finTo (q / 10) (strOfNums [48 + ((q % 10 : Nat) : Int)] ++ s) = finTo q s := by
  have e : finTo q s = decStr q ++ s := by unfold finTo; rw [if_neg (by omega)]
  rw [e]
  by_cases h2 : q < 10
  · have e2 : q / 10 = 0 := by omega
    have e3 : q % 10 = q := by omega
    unfold finTo
    rw [if_pos e2, e3, decStr_small h2]
  · unfold finTo
    rw [if_neg (by omega), decStr_big h2, ByteArray.append_assoc]
theorem finTo_size (q : Nat) (s : ByteArray) : s.size ≤ (finTo q s).size := by
  unfold finTo
  split
  · omega
  · rw [ByteArray.size_append]; omega
set_option maxHeartbeats 1000000 in
set_option maxRecDepth 100000 in
theorem markText_any (K : Nat) (w : World) (h0 : 0 < K) (hK : K ≤ 9223372036854775807) : Calls Tryz.prog 159 #[.int .i64 K] w fun e w' => e = .returned (.string (mText K)) ∧ Below w.heap.size w w' := by
  have hsz := decStr_size K (by omega)
  have HSZ := Lib.hid hsz; clear hsz
  have hst : finTo K { data := #[] } = decStr K := by unfold finTo; rw [if_neg (by omega)]; exact ByteArray.append_empty
  have HST := Lib.hid hst; clear hst
  have hz : ¬ (K : Int) ≤ 0 := by omega
  go_enter Tryz.func159, Tryz.ntmps159
  go_wp2_with fail
  go_loopw [0, 3] (fun i o wr => ∃ (q : Nat) (s : ByteArray), q ≤ K ∧ i = .int .i64 q ∧ o = .string s ∧ Hid (finTo q s = decStr K) ∧ Below w.heap.size w wr) (fun i _ _ => (intOf i).toNat)
  case atStart => exact ⟨K, { data := #[] }, Nat.le_refl _, rfl, rfl, HST.out, Below.refl _ _⟩
  case round =>
    clear hz HST
    obtain ⟨q, s, hq, rfl, rfl, hfin, hb⟩ := hrel
    have hss : s.size ≤ 20 := by have := finTo_size q s; rw [hfin.out] at this; have := HSZ.out; omega
    by_cases hpos : 0 < q
    · have hstep := finTo_step (s := s) hpos
      rw [hfin.out] at hstep
      obtain ⟨d, hd⟩ : ∃ d : Nat, d = q % 10 := ⟨_, rfl⟩
      obtain ⟨r, hr⟩ : ∃ r : Nat, r = q / 10 := ⟨_, rfl⟩
      rw [← hd, ← hr] at hstep
      have hq2 : ((q : Int)).tdiv 10 = (r : Int) := by rw [Int.tdiv_eq_ediv_of_nonneg (by omega)]; omega
      have hd2 : ((q : Int)).tmod 10 = (d : Int) := by rw [Int.tmod_eq_emod_of_nonneg (by omega)]; omega
      have hrq : r < q := by omega
      have hw1 : IntKind.i64.wrap (r : Int) = (r : Int) := by rw [IntKind.wrap_i64]; omega
      have hw2 : IntKind.i64.wrap (48 + (d : Int)) = 48 + (d : Int) := by rw [IntKind.wrap_i64]; omega
      have hw3 : IntKind.u8.wrap (48 + (d : Int)) = 48 + (d : Int) := by
        simp only [IntKind.wrap, IntKind.signed, IntKind.bits]
        simp
        omega
      have hqp : (0 : Int) < (q : Int) := by omega
      have hc := conv_one
      have hadd := fun w => run_string_add (P := Tryz.prog) w (strOfNums [48 + (d : Int)]) s (by rw [strOfNums_size]; simp) (by omega)
      have HSTEP := Lib.hid hstep; have HB := Lib.hid hb
      clear hstep hd hr hb hss hpos
      go_wp2_with fail
      go_roundw
      case rel => exact ⟨r, strOfNums [48 + (d : Int)] ++ s, by omega, rfl, rfl, HSTEP.out, HB.out.alloc HB.out.size _⟩
      case measure => simp [intOf]; omega
    · have hq0 : q = 0 := by omega
      subst hq0
      have hfs : s = decStr K := by have := hfin.out; unfold finTo at this; rwa [if_pos rfl] at this
      subst hfs
      have hadd := fun w => run_string_add (P := Tryz.prog) w { data := #[109] } (decStr K) (by decide) (by omega)
      have HB := Lib.hid hb; clear hb
      go_wp2_with fail
      go_ret
      exact ⟨rfl, HB.out⟩
def mkN (q : Int) (i : Nat) : Nd := ⟨q + 4 * i, mText (q + 4 * i + 1).toNat, q + 4 * i + 2, (q + 4 * i + 3) % 3 == 0⟩
def marksN (q : Int) (n : Nat) : List Nd := (List.range n).map (mkN q)
theorem marksN_len (q : Int) (n : Nat) : (marksN q n).length = n := by simp [marksN]
def markToN (q : Int) (t : List Nd) (k : Nat) : List Nd := marksN q k ++ t.drop k
theorem markToN_len (q : Int) (t : List Nd) (k : Nat) (hk : k ≤ t.length) : (markToN q t k).length = t.length := by
  unfold markToN; rw [List.length_append, marksN_len, List.length_drop]; omega
theorem markToN_zero (q : Int) (t : List Nd) : markToN q t 0 = t := by simp [markToN, marksN]
theorem markToN_all (q : Int) (t : List Nd) : markToN q t t.length = marksN q t.length := by simp [markToN]
theorem markToN_succ (q : Int) (t : List Nd) (k : Nat) (hk : k < t.length) : (markToN q t k).set k (mkN q k) = markToN q t (k + 1) := by
  unfold markToN
  rw [List.set_append_right _ _ (by rw [marksN_len]; exact Nat.le_refl _), marksN_len, Nat.sub_self, List.drop_eq_getElem_cons hk, List.set_cons_zero]
  unfold marksN
  rw [List.range_succ, List.map_append]
  simp
end

section
open Go.RowKit
set_option maxHeartbeats 2000000 in
set_option maxRecDepth 100000 in
theorem markNodes_row (g n cap base : Nat) (t : List Nd) (q : Int) (w : World) (hl : t.length = n) (ho : OwnN 130 w base (.slice (some ⟨g, 0, none⟩) n cap) t) (hn : n ≤ 4194304) (hq0 : 1 ≤ q) (hq1 : q ≤ 16777216) :
    Calls Tryz.prog 120 #[.slice (some ⟨g, 0, none⟩) n cap, .int .i64 q] w fun e w' => e = .returned (.int .i64 (q + 4 * n)) ∧ OwnN 130 w' base (.slice (some ⟨g, 0, none⟩) n cap) (marksN q n) ∧ w.grownBy w' (some g) := by
  have HL := Lib.hid hl
  have ho' : OwnN 130 w base (.slice (some ⟨g, 0, none⟩) n cap) (markToN q t 0) := by rw [markToN_zero]; exact ho
  have HO := Lib.hid ho'; clear ho ho'
  go_enter Tryz.func120, Tryz.ntmps120
  go_wp2_with fail
  go_loopw [1, 5] (fun v i wr => ∃ k : Nat, k ≤ n ∧ i = .int .i64 k ∧ v = .int .i64 (q + 4 * k) ∧ OwnN 130 wr base (.slice (some ⟨g, 0, none⟩) n cap) (markToN q t k) ∧ w.grownBy wr (some g)) (fun _ i _ => n - (intOf i).toNat)
  case atStart => exact ⟨0, Nat.zero_le _, rfl, by simp, HO.out, World.grownBy.refl _ _⟩
  case round =>
    clear HO
    obtain ⟨k, hk, rfl, rfl, ho, hg⟩ := hrel
    by_cases hlt : k < n
    · have hkt : k < t.length := by rw [HL.out]; exact hlt
      have hlen := (markToN_len q t k (by omega)).trans HL.out
      have hkl : k < (markToN q t k).length := by omega
      have hsucc := markToN_succ q t k hkt
      obtain ⟨mt, hmt⟩ : ∃ mt, mt = markToN q t k := ⟨_, rfl⟩
      rw [← hmt] at ho hlen hsucc hkl
      obtain ⟨K, hK⟩ : ∃ K : Nat, K = (q + 4 * k).toNat := ⟨_, rfl⟩
      have hKi : q + 4 * (k : Int) = (K : Int) := by omega
      have hmk : mkN q k = ⟨(K : Int), mText (K + 1), (K : Int) + 1 + 1, ((K : Int) + 1 + 1 + 1) % 3 == 0⟩ := by
        unfold mkN
        rw [hKi]
        have e1 : ((K : Int) + 1).toNat = K + 1 := by omega
        have e2 : (K : Int) + 2 = (K : Int) + 1 + 1 := by omega
        have e3 : (K : Int) + 3 = (K : Int) + 1 + 1 + 1 := by omega
        rw [e1, e2, e3]
      rw [hmk] at hsucc
      rw [hKi]
      have hK0 : 0 < K := by omega
      have hK1 : K ≤ 33554432 := by omega
      have hK4 : q + 4 * ((k : Int) + 1) = (K : Int) + 4 := by omega
      have hnext : q + 4 * ((k + 1 : Nat) : Int) = (K : Int) + 4 := by omega
      have HNEXT := Lib.hid hnext; have HSUCC := Lib.hid hsucc; have HG := Lib.hid hg; have HLEN := Lib.hid hlen; have HKL := Lib.hid hkl
      generalize hz : ndOf mt k = z
      obtain ⟨zi, zn, zf, zp⟩ := z
      have hin := (ho.store hlen hlt Nd.zero).1
      rw [hz] at hin
      obtain ⟨d0, d1, d2, d3⟩ := hin
      obtain ⟨f0, o0, b0⟩ := ho.field (j := 0) (u := .int .i64 (K : Int)) (y := ⟨(K : Int), zn, zf, zp⟩) hlen hlt (by omega) (by rw [hz]; rfl)
      have G0 := Lib.hid (grown_trans HG.out (grown_set wr g (k * 4 + 0) (.int .i64 (K : Int))))
      have O0 := Lib.hid o0
      clear hnext hsucc hg hlen hkl hmt hK hKi hmk b0 o0 hK4 ho
      simp only [Nat.add_zero] at f0 O0 G0
      go_wp2_with fail
      refine (markText_any (K + 1) _ (by omega) (by omega)).mono ?_
      rintro e w2 ⟨rfl, b2⟩
      clear d0 d1 d2 d3 f0
      have O1 := Lib.hid (O0.out.below b2)
      have G1 := Lib.hid (grown_trans G0.out (grown_of_b b2 _))
      clear b2 O0 G0
      have hl1 : (mt.set k ⟨(K : Int), zn, zf, zp⟩).length = n := by rw [List.length_set]; exact HLEN.out
      have hin1 := (O1.out.store hl1 hlt Nd.zero).1
      rw [ndOf_set HKL.out] at hin1
      obtain ⟨d0, d1, d2, d3⟩ := hin1
      obtain ⟨f1, o2, -⟩ := O1.out.field (j := 1) (u := .string (mText (K + 1))) (y := ⟨(K : Int), mText (K + 1), zf, zp⟩) hl1 hlt (by omega) (by rw [ndOf_set HKL.out]; rfl)
      obtain ⟨f2, -, -⟩ := O1.out.field (j := 2) (u := .int .i64 0) (y := ⟨(K : Int), zn, 0, zp⟩) hl1 hlt (by omega) (by rw [ndOf_set HKL.out]; rfl)
      obtain ⟨f3, -, -⟩ := O1.out.field (j := 3) (u := .bool true) (y := ⟨(K : Int), zn, zf, true⟩) hl1 hlt (by omega) (by rw [ndOf_set HKL.out]; rfl)
      rw [List.set_set] at o2
      have hl2 : (mt.set k ⟨(K : Int), mText (K + 1), zf, zp⟩).length = n := by rw [List.length_set]; exact HLEN.out
      obtain ⟨-, o3, -⟩ := o2.field (j := 2) (u := .int .i64 ((K : Int) + 2)) (y := ⟨(K : Int), mText (K + 1), (K : Int) + 1 + 1, zp⟩) hl2 hlt (by omega) (by rw [ndOf_set HKL.out]; rfl)
      rw [List.set_set] at o3
      have hl3 : (mt.set k ⟨(K : Int), mText (K + 1), (K : Int) + 1 + 1, zp⟩).length = n := by rw [List.length_set]; exact HLEN.out
      obtain ⟨-, o4, -⟩ := o3.field (j := 3) (u := .bool (((K : Int) + 1 + 1 + 1) % 3 == 0)) (y := ⟨(K : Int), mText (K + 1), (K : Int) + 1 + 1, ((K : Int) + 1 + 1 + 1) % 3 == 0⟩) hl3 hlt (by omega) (by rw [ndOf_set HKL.out]; rfl)
      rw [List.set_set, HSUCC.out] at o4
      have g2 := grown_trans G1.out (grown_set w2 g (k * 4 + 1) (.string (mText (K + 1))))
      have g3 := grown_trans g2 (grown_set _ g (k * 4 + 2) (.int .i64 ((K : Int) + 1 + 1)))
      have g4 := grown_trans g3 (grown_set _ g (k * 4 + 3) (.bool (((K : Int) + 1 + 1 + 1) % 3 == 0)))
      have O4 := Lib.hid o4; have G4 := Lib.hid g4
      clear hl1 hl2 hl3 o2 o3 o4 g2 g3 g4
      clear O1 G1
      go_wp2_with fail
      go_roundw
      case rel => exact ⟨k + 1, by omega, by go_num, by rw [HNEXT.out]; go_num, O4.out, G4.out⟩
      case measure => simp [intOf]; omega
    · have hkn : k = n := by omega
      subst hkn
      have HOO := Lib.hid ho; have HG := Lib.hid hg; clear ho hg
      go_wp2_with fail
      go_ret
      exact ⟨rfl, by have h := HOO.out; rw [← HL.out, markToN_all] at h; rw [HL.out] at h; exact h, HG.out⟩
theorem markNodes_any (ao : Option Addr) (n cap base : Nat) (t : List Nd) (q : Int) (w : World) (hl : t.length = n) (ho : OwnN 130 w base (.slice ao n cap) t) (hn : n ≤ 4194304) (hq0 : 1 ≤ q) (hq1 : q ≤ 16777216) :
    Calls Tryz.prog 120 #[.slice ao n cap, .int .i64 q] w fun e w' => e = .returned (.int .i64 (q + 4 * n)) ∧ OwnN 130 w' base (.slice ao n cap) (marksN q n) ∧ w.grownBy w' (Value.ownBlock (.slice ao n cap)) := by
  obtain ⟨ao', cap', e, -, -, -, hcase⟩ := ho.form
  rw [hl] at e
  cases e
  rcases hcase with hnil | ⟨g, rfl, -, -⟩
  · simp only [Value.slice.injEq] at hnil
    obtain ⟨rfl, rfl, rfl⟩ := hnil
    clear ho
    go_enter Tryz.func120, Tryz.ntmps120
    go_wp2
    refine wp_loop_rounds 1 ?_
    rw [rounds_succ]
    go_wp2
    go_ret
    exact ⟨ret_int (by simp), OwnN.nil_, World.grownBy.refl _ _⟩
  · exact markNodes_row g n cap base t q w hl ho hn hq0 hq1
end
end Go.Proofs.YthihjhidjnadaaaGreat
