/-
  Contracts of the program's, the model's and the laws' functions, and plain mathematics, on which a proof of this claim stands (part N).
-/
import Derived.Laws.StructEq
import Derived.Lib.SlicesS
import Derived.BigQuiet
import Derived.Deep.RegionHeld3
import Derived.Deep.DeepCutAuto
import Derived.Test.YthihjhidjnadaaaGreatP27A
namespace Go.Proofs.YthihjhidjnadaaaGreat
section
open Go.RowKit
theorem charOk_iff {c : Int} : charOk c = true ↔ (97 ≤ c ∧ c ≤ 122) ∨ (48 ≤ c ∧ c ≤ 57) := by simp [charOk]
theorem charOk_eq {c : Int} {b : Bool} (h : ((97 ≤ c ∧ c ≤ 122) ∨ (48 ≤ c ∧ c ≤ 57)) ↔ b = true) : charOk c = b := by rw [Bool.eq_iff_iff, charOk_iff, h]
theorem isNameByte_any (c : Int) (w : World) : Calls Tryz.prog 236 #[.int .u8 c] w fun e w' => e = .returned (.bool (charOk c)) ∧ w = w' := by
  by_cases h1 : 97 ≤ c
  · by_cases h2 : c ≤ 122
    · rw [charOk_eq (b := true) (by simp; omega)]
      go_enter Tryz.func236, Tryz.ntmps236
      go_wp2
      go_ret
      exact ⟨rfl, rfl⟩
    · rw [charOk_eq (b := false) (by simp; omega)]
      have h3 : 48 ≤ c := by omega
      have h4 : ¬ c ≤ 57 := by omega
      go_enter Tryz.func236, Tryz.ntmps236
      go_wp2
      go_ret
      exact ⟨rfl, rfl⟩
  · by_cases h3 : 48 ≤ c
    · rw [charOk_eq (b := decide (c ≤ 57)) (by simp; omega)]
      go_enter Tryz.func236, Tryz.ntmps236
      go_wp2
      go_ret
      exact ⟨rfl, rfl⟩
    · rw [charOk_eq (b := false) (by simp; omega)]
      go_enter Tryz.func236, Tryz.ntmps236
      go_wp2
      go_ret
      exact ⟨rfl, rfl⟩
theorem all_char_succ {xs : List Int} {k : Nat} (hk : k < xs.length) (h : (xs.take k).all charOk = true) (hx : charOk (xs.getD k 0) = true) : (xs.take (k + 1)).all charOk = true := by
  rw [take_succ' xs k hk, List.all_append, h]; simp [-List.getD_eq_getElem?_getD, hx]
theorem all_char_no {xs : List Int} {k : Nat} (hk : k < xs.length) (hx : charOk (xs.getD k 0) = false) : xs.all charOk = false := by
  rw [List.all_eq_false]
  refine ⟨xs[k], List.getElem_mem hk, ?_⟩
  rw [List.getD, List.getElem?_eq_getElem hk] at hx
  simpa using hx
theorem nameOk_no {s : ByteArray} (h : (nums s).all charOk = false) : nameOk s = false := by unfold nameOk; rw [h]; rfl
theorem nameOk_size {s : ByteArray} (h : (nums s).all charOk = true) : nameOk s = (decide (1 ≤ s.size) && decide (s.size ≤ 6)) := by unfold nameOk; rw [h]; rfl
theorem nameOk_short {s : ByteArray} (h : s.size < 1 ∨ 6 < s.size) : nameOk s = false := by
  unfold nameOk
  have : (decide (1 ≤ s.size) && decide (s.size ≤ 6)) = false := by rw [Bool.and_eq_false_iff, decide_eq_false_iff_not, decide_eq_false_iff_not]; omega
  rw [this, Bool.and_false]
theorem isNodeName_any (s : ByteArray) (w : World) (hn : s.size ≤ 1048576) : Calls Tryz.prog 209 #[.string s] w fun e w' => e = .returned (.bool (nameOk s)) ∧ w = w' := by
  by_cases h0 : s.size = 0
  · rw [nameOk_short (by omega)]
    have h0' : ((s.size : Int) == 0) = true := by rw [beq_iff_eq]; omega
    go_enter Tryz.func209, Tryz.ntmps209
    go_wp2
    go_ret
    exact ⟨rfl, rfl⟩
  have h0' : ((s.size : Int) == 0) = false := by rw [beq_eq_false_iff_ne]; omega
  by_cases h6 : 6 < s.size
  · rw [nameOk_short (by omega)]
    have h6' : (6 : Int) < (s.size : Int) := by omega
    clear h0 h6
    go_enter Tryz.func209, Tryz.ntmps209
    go_wp2
    go_ret
    exact ⟨rfl, rfl⟩
  have h6' : ¬ (6 : Int) < (s.size : Int) := by omega
  have h6d : decide ((6 : Int) < (s.size : Int)) = false := by simp; omega
  have hyes : (nums s).all charOk = true → nameOk s = true := fun h => by rw [nameOk_size h]; simp; omega
  have HY := Lib.hid hyes; clear hyes
  have hnl := nums_len s
  have HNL := Lib.hid hnl; clear hnl h0 h6
  go_enter Tryz.func209, Tryz.ntmps209
  go_wp2
  go_loopw [14] (fun i wr => ∃ k : Nat, k ≤ s.size ∧ i = .int .i64 k ∧ wr = w ∧ Hid (((nums s).take k).all charOk = true)) (fun i _ => s.size - (intOf i).toNat)
  case atStart => exact ⟨0, Nat.zero_le _, rfl, rfl, rfl⟩
  case round =>
    obtain ⟨k, hk, rfl, rfl, hall⟩ := hrel
    by_cases hlt : k < s.size
    · have hkn : k < (nums s).length := by rw [HNL.out]; exact hlt
      have hng := nums_getD s k hlt
      obtain ⟨c, hc⟩ : ∃ c : Int, ((s[k]'hlt).toNat : Int) = c := ⟨_, rfl⟩
      rw [hc] at hng
      have HNG := Lib.hid hng; clear hng
      have HKN := Lib.hid hkn; clear hkn
      rcases hcc : charOk c with _ | _
      · have hfin := nameOk_no (all_char_no HKN.out (by rw [HNG.out]; exact hcc))
        have HF := Lib.hid hfin; clear hfin
        go_wp2_with (go_at_call 236; refine (isNameByte_any _ _).mono ?_; rintro e w' ⟨rfl, rfl⟩; rw [hcc])
        go_ret
        rw [HF.out]
        exact ⟨rfl, rfl⟩
      · have hs := all_char_succ HKN.out hall.out (by rw [HNG.out]; exact hcc)
        have HS := Lib.hid hs; clear hs
        go_wp2_with (go_at_call 236; refine (isNameByte_any _ _).mono ?_; rintro e w' ⟨rfl, rfl⟩; rw [hcc])
        go_roundw
        case rel => exact ⟨k + 1, by omega, by go_num, trivial, HS.out⟩
        case measure => simp [intOf]; omega
    · have hkn : k = s.size := by omega
      subst hkn
      go_wp2
      go_ret
      rw [HY.out (by have := hall.out; rwa [List.take_of_length_le (by rw [HNL.out]; exact Nat.le_refl _)] at this)]
      exact ⟨rfl, rfl⟩
theorem l10Name_any (s : ByteArray) (w : World) (hn : s.size ≤ 1048576) : Calls Tryz.prog 239 #[.string s] w fun e w' => e = .returned (.bool (nameOk s)) ∧ w = w' := by
  have hnl := nums_len s
  have HNL := Lib.hid hnl; clear hnl
  go_enter Tryz.func239, Tryz.ntmps239
  go_wp2
  go_loopw [3] (fun i wr => ∃ k : Nat, k ≤ s.size ∧ i = .int .i64 k ∧ wr = w ∧ Hid (((nums s).take k).all charOk = true)) (fun i _ => s.size - (intOf i).toNat)
  case atStart => exact ⟨0, Nat.zero_le _, rfl, rfl, rfl⟩
  case round =>
    obtain ⟨k, hk, rfl, rfl, hall⟩ := hrel
    by_cases hlt : k < s.size
    · have hkn : k < (nums s).length := by rw [HNL.out]; exact hlt
      have hng := nums_getD s k hlt
      obtain ⟨c, hc⟩ : ∃ c : Int, ((s[k]'hlt).toNat : Int) = c := ⟨_, rfl⟩
      rw [hc] at hng
      have HNG := Lib.hid hng; clear hng
      have HKN := Lib.hid hkn; clear hkn
      have hno : charOk c = false → nameOk s = false := fun h => nameOk_no (all_char_no HKN.out (by rw [HNG.out]; exact h))
      have hyes : charOk c = true → ((nums s).take (k + 1)).all charOk = true := fun h => all_char_succ HKN.out hall.out (by rw [HNG.out]; exact h)
      have HN := Lib.hid hno; clear hno
      have HY := Lib.hid hyes; clear hyes
      by_cases h1 : c < 97
      · by_cases h3 : c < 48
        · have HF := Lib.hid (HN.out (charOk_eq (by simp; omega)))
          go_wp2
          go_ret
          rw [HF.out]
          exact ⟨rfl, rfl⟩
        · by_cases h4 : 57 < c
          · have HF := Lib.hid (HN.out (charOk_eq (by simp; omega)))
            go_wp2
            go_ret
            rw [HF.out]
            exact ⟨rfl, rfl⟩
          · have HF := Lib.hid (HY.out (charOk_eq (by simp; omega)))
            go_wp2
            go_roundw
            case rel => exact ⟨k + 1, by omega, by go_num, trivial, HF.out⟩
            case measure => simp [intOf]; omega
      · by_cases h2 : 122 < c
        · have h3 : ¬ c < 48 := by omega
          have h4 : 57 < c := by omega
          have HF := Lib.hid (HN.out (charOk_eq (by simp; omega)))
          go_wp2
          go_ret
          rw [HF.out]
          exact ⟨rfl, rfl⟩
        · have HF := Lib.hid (HY.out (charOk_eq (by simp; omega)))
          go_wp2
          go_roundw
          case rel => exact ⟨k + 1, by omega, by go_num, trivial, HF.out⟩
          case measure => simp [intOf]; omega
    · have hkn : k = s.size := by omega
      subst hkn
      have hfin := nameOk_size (by have := hall.out; rwa [List.take_of_length_le (by rw [HNL.out]; exact Nat.le_refl _)] at this)
      by_cases h1 : 1 ≤ s.size
      · by_cases h6 : s.size ≤ 6
        · have h1' : (1 : Int) ≤ (s.size : Int) := by omega
          have h6' : (s.size : Int) ≤ 6 := by omega
          have HF := Lib.hid hfin; clear hfin
          go_wp2
          go_ret
          rw [HF.out]
          exact ⟨ret_bool (by simp; omega), rfl⟩
        · have h1' : (1 : Int) ≤ (s.size : Int) := by omega
          have h6' : ¬ (s.size : Int) ≤ 6 := by omega
          have HF := Lib.hid hfin; clear hfin
          go_wp2
          go_ret
          rw [HF.out]
          exact ⟨ret_bool (by simp; omega), rfl⟩
      · have h1' : ¬ (1 : Int) ≤ (s.size : Int) := by omega
        have HF := Lib.hid hfin; clear hfin
        go_wp2
        go_ret
        rw [HF.out]
        exact ⟨ret_bool (by simp; omega), rfl⟩
theorem isNd_split (x : Nd) : isNd x = (isNode x.id && (nameOk x.name && (decide (0 ≤ x.drift) && decide (x.drift ≤ 1000)))) := rfl
theorem isNodeInfo_any (x : Nd) (w : World) (hn : x.name.size ≤ 1048576) : Calls Tryz.prog 177 #[ndVal x] w fun e w' => e = .returned (.bool (isNd x)) ∧ Below w.heap.size w w' := by
  obtain ⟨d, s, f, p⟩ := x
  have hs := isNd_split ⟨d, s, f, p⟩
  simp only at hs hn
  unfold ndVal
  simp only
  rcases h1 : isNode d with _ | _
  · rw [h1, Bool.false_and] at hs
    rw [hs]; clear hs
    go_enter Tryz.func177, Tryz.ntmps177
    go_wp2_with (go_at_call 149; refine (isNode_any _ _).mono ?_; rintro e w' ⟨rfl, rfl⟩; rw [h1])
    go_ret
    exact ⟨rfl, (Below.refl _ _).alloc (Nat.le_refl _) _⟩
  rcases h2 : nameOk s with _ | _
  · rw [h1, h2, Bool.false_and, Bool.and_false] at hs
    rw [hs]; clear hs
    go_enter Tryz.func177, Tryz.ntmps177
    go_wp2_with (first
      | (go_at_call 149; refine (isNode_any _ _).mono ?_; rintro e w' ⟨rfl, rfl⟩; rw [h1])
      | (go_at_call 209; refine (isNodeName_any _ _ hn).mono ?_; rintro e w' ⟨rfl, rfl⟩; rw [h2]))
    go_ret
    exact ⟨rfl, (Below.refl _ _).alloc (Nat.le_refl _) _⟩
  rw [h1, h2, Bool.true_and, Bool.true_and] at hs
  by_cases h3 : 0 ≤ f
  · rw [hs]; clear hs
    have h3d : decide (0 ≤ f) = true := decide_eq_true h3
    rw [h3d, Bool.true_and]; clear h3d
    go_enter Tryz.func177, Tryz.ntmps177
    go_wp2_with (first
      | (go_at_call 149; refine (isNode_any _ _).mono ?_; rintro e w' ⟨rfl, rfl⟩; rw [h1])
      | (go_at_call 209; refine (isNodeName_any _ _ hn).mono ?_; rintro e w' ⟨rfl, rfl⟩; rw [h2]))
    go_ret
    exact ⟨rfl, (Below.refl _ _).alloc (Nat.le_refl _) _⟩
  · have h3d : decide (0 ≤ f) = false := decide_eq_false h3
    rw [h3d, Bool.false_and] at hs
    rw [hs]; clear hs h3d
    go_enter Tryz.func177, Tryz.ntmps177
    go_wp2_with (first
      | (go_at_call 149; refine (isNode_any _ _).mono ?_; rintro e w' ⟨rfl, rfl⟩; rw [h1])
      | (go_at_call 209; refine (isNodeName_any _ _ hn).mono ?_; rintro e w' ⟨rfl, rfl⟩; rw [h2]))
    go_ret
    exact ⟨rfl, (Below.refl _ _).alloc (Nat.le_refl _) _⟩
theorem sIsNodeInfo_any (x : Nd) (w : World) (hn : x.name.size ≤ 1048576) : Calls Tryz.prog 214 #[ndVal x] w fun e w' => e = .returned (.bool (isNd x)) ∧ Below w.heap.size w w' := by
  obtain ⟨d, s, f, p⟩ := x
  have hs := isNd_split ⟨d, s, f, p⟩
  simp only at hs hn
  unfold ndVal
  simp only
  rcases h1 : isNode d with _ | _
  · rw [h1, Bool.false_and] at hs
    rw [hs]; clear hs
    go_enter Tryz.func214, Tryz.ntmps214
    go_wp2_with (go_at_call 238; refine (l05Node_any _ _).mono ?_; rintro e w' ⟨rfl, rfl⟩; rw [h1])
    go_ret
    exact ⟨rfl, (Below.refl _ _).alloc (Nat.le_refl _) _⟩
  rcases h2 : nameOk s with _ | _
  · rw [h1, h2, Bool.false_and, Bool.and_false] at hs
    rw [hs]; clear hs
    go_enter Tryz.func214, Tryz.ntmps214
    go_wp2_with (first
      | (go_at_call 238; refine (l05Node_any _ _).mono ?_; rintro e w' ⟨rfl, rfl⟩; rw [h1])
      | (go_at_call 239; refine (l10Name_any _ _ hn).mono ?_; rintro e w' ⟨rfl, rfl⟩; rw [h2]))
    go_ret
    exact ⟨rfl, (Below.refl _ _).alloc (Nat.le_refl _) _⟩
  rw [h1, h2, Bool.true_and, Bool.true_and] at hs
  rw [hs]; clear hs
  go_enter Tryz.func214, Tryz.ntmps214
  go_wp2_with (first
    | (go_at_call 238; refine (l05Node_any _ _).mono ?_; rintro e w' ⟨rfl, rfl⟩; rw [h1])
    | (go_at_call 239; refine (l10Name_any _ _ hn).mono ?_; rintro e w' ⟨rfl, rfl⟩; rw [h2])
    | (go_at_call 180; refine (in_any _ _ _ _).mono ?_; rintro e w' ⟨rfl, rfl⟩))
  go_ret
  exact ⟨rfl, (Below.refl _ _).alloc (Nat.le_refl _) _⟩
end

section
open Go.RowKit
theorem hmfunc : ∀ (fn : Fn) (first cap : Array Value) (w : World), (Instr.makeFunc fn first cap).run Tryz.prog w = .ok (.func fn first cap) w := fun _ _ _ _ => rfl
def hasNm (t : List Nd) (s : ByteArray) : Bool := t.any fun x => decide (x.name = s)
theorem ndOf_getD (t : List Nd) (k : Nat) (h : k < t.length) : t.take (k + 1) = t.take k ++ [ndOf t k] := by
  rw [List.take_add_one, List.getElem?_eq_getElem h, ndOf_get h]; rfl
theorem hasNm_succ {t : List Nd} {s : ByteArray} {k : Nat} (h : k < t.length) (h1 : hasNm (t.take k) s = false) (h2 : decide ((ndOf t k).name = s) = false) : hasNm (t.take (k + 1)) s = false := by
  unfold hasNm at h1 ⊢
  rw [ndOf_getD t k h, List.any_append, h1]
  simp only [List.any_cons, List.any_nil, h2, Bool.or_false]
theorem hasNm_yes {t : List Nd} {s : ByteArray} {k : Nat} (h : k < t.length) (h2 : decide ((ndOf t k).name = s) = true) : hasNm t s = true := by
  unfold hasNm
  rw [List.any_eq_true]
  exact ⟨ndOf t k, ndOf_mem h, h2⟩
theorem hasNm1_any (b : Nat) (s : ByteArray) (x : Nd) (w : World) (hc : w.cell? ⟨b, 0, none⟩ = some (.string s)) :
    Calls Tryz.prog 211 #[ndVal x, .pointer (some ⟨b, 0, none⟩)] w fun e w' => e = .returned (.bool (decide (x.name = s))) ∧ Below w.heap.size w w' := by
  have hb := Lib.bytes_beq_iff x.name s
  have hlt : b < w.heap.size := World.block_lt_of_cell? w _ hc
  have hc2 := fun o => World.cell?_alloc_old w o ⟨b, 0, none⟩ (Nat.ne_of_lt hlt)
  unfold ndVal
  have hd : (x.name.toList == s.toList) = decide (x.name = s) := by rw [Bool.eq_iff_iff, hb, decide_eq_true_eq]
  clear hb
  go_enter Tryz.func211, Tryz.ntmps211
  go_wp2
  go_ret
  exact ⟨rfl, (Below.refl _ _).alloc (Nat.le_refl _) _⟩
theorem indexNd_any (ao : Option Addr) (n cap b : Nat) (t : List Nd) (s : ByteArray) (w : World) (hr : RdN w ao n t) (hn : n ≤ 9223372036854775807) (hcs : w.cell? ⟨b, 0, none⟩ = some (.string s)) :
    Calls Tryz.prog 237 #[.slice ao n cap, .func (.func 211) #[] #[.pointer (some ⟨b, 0, none⟩)]] w fun e w' => ∃ r : Int, e = .returned (.int .i64 r) ∧ -1 ≤ r ∧ decide (0 ≤ r) = hasNm t s ∧ Below w.heap.size w w' := by
  have HL := Lib.hid hr.len
  have HR := Lib.hid hr; clear hr
  have hlt0 : b < w.heap.size := World.block_lt_of_cell? w _ hcs
  have HC := Lib.hid hcs; clear hcs
  go_enter Tryz.func237, Tryz.ntmps237
  go_wp2
  go_loopw [8] (fun i wr => ∃ k : Nat, k ≤ n ∧ i = .int .i64 k ∧ Below w.heap.size w wr ∧ Hid (hasNm (t.take k) s = false)) (fun i _ => n - (intOf i).toNat)
  case atStart => exact ⟨0, Nat.zero_le _, rfl, Below.refl _ _, rfl⟩
  case round =>
    obtain ⟨k, hk, rfl, hb, hall⟩ := hrel
    by_cases hlt : k < n
    · obtain ⟨g, off, rfl, hg, hx⟩ := HR.out.at hlt
      replace hx := hx.below hb hg
      have hcs := (hb.cell (p := ⟨b, 0, none⟩) hlt0).trans HC.out
      have hkt : k < t.length := by rw [HL.out]; exact hlt
      have HKT := Lib.hid hkt; clear hkt
      have HB := Lib.hid hb; clear hb
      obtain ⟨x, hxe⟩ : ∃ x, x = ndOf t k := ⟨_, rfl⟩
      rw [← hxe] at hx
      have hno : decide (x.name = s) = false → hasNm (t.take (k + 1)) s = false := fun h => hasNm_succ HKT.out hall.out (by rw [← hxe]; exact h)
      have hyes : decide (x.name = s) = true → hasNm t s = true := fun h => hasNm_yes HKT.out (by rw [← hxe]; exact h)
      have HN := Lib.hid hno; have HY := Lib.hid hyes; clear hno hyes hxe
      obtain ⟨h0, h1, h2, h3⟩ := hx
      have hcall := hasNm1_any b s x wr hcs
      unfold ndVal at hcall
      have HCALL := Lib.hid hcall; clear hcall hcs
      rcases hd : decide (x.name = s) with _ | _
      · go_wp2_with (go_at_call 211; refine HCALL.out.mono ?_; rintro e w1 ⟨rfl, b1⟩; rw [hd])
        go_roundw
        case rel => exact ⟨k + 1, by omega, by go_num, below_two HB.out b1, HN.out hd⟩
        case measure => simp [intOf]; omega
      · go_wp2_with (go_at_call 211; refine HCALL.out.mono ?_; rintro e w1 ⟨rfl, b1⟩; rw [hd])
        go_ret
        exact ⟨_, rfl, by omega, by rw [HY.out hd]; simp, below_two HB.out b1⟩
    · have hkn : k = n := by omega
      subst hkn
      have HB := Lib.hid hb; clear hb
      go_wp2
      go_ret
      exact ⟨_, rfl, by omega, by have := hall.out; rw [List.take_of_length_le (by rw [HL.out]; exact Nat.le_refl _)] at this; rw [this]; rfl, HB.out⟩
theorem hasName_any (ao : Option Addr) (n cap : Nat) (t : List Nd) (s : ByteArray) (w : World) (hr : RdN w ao n t) (hn : n ≤ 9223372036854775807) :
    Calls Tryz.prog 178 #[.slice ao n cap, .string s] w fun e w' => e = .returned (.bool (hasNm t s)) ∧ Below w.heap.size w w' := by
  have hmf := hmfunc
  have HR := Lib.hid (hr.below ((Below.refl _ _).alloc (Nat.le_refl _) (.cells #[.string s] 9))); clear hr
  have hcon : ∀ (w1 : World) (b : Nat), RdN w1 ao n t → w1.cell? ⟨b, 0, none⟩ = some (.string s) → Calls Tryz.prog 210 #[.slice ao n cap, .func (.func 211) #[] #[.pointer (some ⟨b, 0, none⟩)]] w1 fun e w' => e = .returned (.bool (hasNm t s)) ∧ Below w1.heap.size w1 w' := by
    intro w1 b hr1 hc1
    have hcall := Lib.hid (indexNd_any ao n cap b t s w1 hr1 hn hc1)
    clear hr1 hc1 HR hmf
    go_enter Tryz.func210, Tryz.ntmps210
    go_wp2_with fail
    refine hcall.out.mono ?_
    rintro e w2 ⟨r, rfl, -, hd, b2⟩
    go_wp2
    go_ret
    exact ⟨ret_bool (by rw [← hd]), b2⟩
  have HCON := Lib.hid hcon; clear hcon
  go_enter Tryz.func178, Tryz.ntmps178
  go_wp2_with fail
  refine (HCON.out _ _ HR.out (new_cell rfl)).mono ?_
  rintro e w2 ⟨rfl, b2⟩
  go_wp2
  go_ret
  exact ⟨rfl, ((Below.refl _ _).alloc (Nat.le_refl _) _).trans (b2.mono (by simp))⟩
end

section
open Go.RowKit
def lastId (t : List Nd) : Nat → Int
  | 0 => -1
  | k + 1 => (ndOf t k).id
theorem up_eq {t : List Nd} {k : Nat} (h : isNd (ndOf t k) = true) : decide ((ndOf t k).id ≤ lastId t k) = !upOk t k := by
  have h1 := (isNd_iff.1 h).1
  cases k with
  | zero => rw [show upOk t 0 = true from rfl, Bool.not_true, decide_eq_false_iff_not]; show ¬ (ndOf t 0).id ≤ -1; omega
  | succ k =>
    have e : upOk t (k + 1) = decide ((ndOf t k).id < (ndOf t (k + 1)).id) := by simp [upOk]
    show decide ((ndOf t (k + 1)).id ≤ (ndOf t k).id) = !upOk t (k + 1)
    rw [e, ← decide_not, decide_eq_decide]; omega
theorem new_eq {t : List Nd} {k : Nat} (h : k ≤ t.length) : hasNm (t.take k) (ndOf t k).name = !newName t k := by
  rw [Bool.eq_iff_iff]
  unfold hasNm newName
  rw [List.any_eq_true, Bool.not_eq_true', List.all_eq_false]
  constructor
  · rintro ⟨x, hx, he⟩
    obtain ⟨i, hi, rfl⟩ := mem_ndOf hx
    rw [List.length_take] at hi
    rw [ndOf_take (by omega)] at he
    exact ⟨i, List.mem_range.2 (by omega), by simpa using he⟩
  · rintro ⟨i, hi, he⟩
    have hi := List.mem_range.1 hi
    refine ⟨ndOf t i, ?_, by simpa using he⟩
    rw [← ndOf_take (k := k) hi]
    exact ndOf_mem (by rw [List.length_take]; omega)
theorem entry_nd {t : List Nd} {k : Nat} (h : isNd (ndOf t k) = false) : entryOk t k = false := by unfold entryOk; rw [h]; rfl
theorem entry_up {t : List Nd} {k : Nat} (h : isNd (ndOf t k) = true) (h2 : (ndOf t k).id ≤ lastId t k) : entryOk t k = false := by
  have h3 := up_eq h
  rw [decide_eq_true h2] at h3
  unfold entryOk; rw [show upOk t k = false from by simpa using h3.symm]; simp
theorem entry_new {t : List Nd} {k : Nat} (hk : k ≤ t.length) (h2 : hasNm (t.take k) (ndOf t k).name = true) : entryOk t k = false := by
  rw [new_eq hk] at h2
  unfold entryOk; rw [show newName t k = false from by simpa using h2]; simp
theorem entry_yes {t : List Nd} {k : Nat} (hk : k ≤ t.length) (h : isNd (ndOf t k) = true) (h1 : ¬ (ndOf t k).id ≤ lastId t k) (h2 : hasNm (t.take k) (ndOf t k).name = false) : entryOk t k = true := by
  have h3 := up_eq h
  rw [decide_eq_false h1] at h3
  rw [new_eq hk] at h2
  unfold entryOk; rw [h, show upOk t k = true from by simpa using h3.symm, show newName t k = true from by simpa using h2]; rfl
def okTo (t : List Nd) (k : Nat) : Prop := ∀ i, i < k → entryOk t i = true
theorem okTo_zero (t : List Nd) : okTo t 0 := fun i h => absurd h (by omega)
theorem okTo_succ {t : List Nd} {k : Nat} (h : okTo t k) (h1 : entryOk t k = true) : okTo t (k + 1) := fun i hi => by
  by_cases e : i = k
  · subst e; exact h1
  · exact h i (by omega)
theorem table_no {t : List Nd} {k : Nat} (hk : k < t.length) (h : entryOk t k = false) : isTable t = false := by
  rw [Bool.eq_false_iff]
  intro hc
  rw [(isTable_iff.1 hc).2 k hk] at h
  cases h
theorem ok_ids {t : List Nd} (h : okTo t t.length) : ∀ k, k < t.length → (k : Int) ≤ (ndOf t k).id
  | 0, hk => by have := (isNd_iff.1 (entryOk_iff.1 (h 0 hk)).1).1; simpa using this.1
  | k + 1, hk => by
    have h1 := ok_ids h k (by omega)
    have h2 := (entryOk_iff.1 (h (k + 1) hk)).2.1
    simp [upOk] at h2
    omega
theorem ok_len {t : List Nd} (h : okTo t t.length) : t.length ≤ 32 := by
  by_cases h0 : t.length = 0
  · omega
  · have h1 := ok_ids h (t.length - 1) (by omega)
    have h2 := (isNd_iff.1 (entryOk_iff.1 (h (t.length - 1) (by omega))).1).1
    omega
theorem table_len {t : List Nd} (h : okTo t t.length) : isTable t = decide (0 < t.length) := by
  rw [Bool.eq_iff_iff, isTable_iff, decide_eq_true_eq]
  exact ⟨fun h1 => h1.1.1, fun h1 => ⟨⟨h1, ok_len h⟩, h⟩⟩
set_option linter.unusedSimpArgs false in
set_option maxHeartbeats 2000000 in
set_option maxRecDepth 100000 in
set_option linter.unusedSimpArgs false in
theorem isTable_any (ao : Option Addr) (n cap : Nat) (t : List Nd) (w : World) (hr : RdN w ao n t) (hn : n ≤ cap) (hcap : cap ≤ 9223372036854775807) (hs : smallN t) :
    Calls Tryz.prog 139 #[.slice ao n cap] w fun e w' => e = .returned (.bool (isTable t)) ∧ Below w.heap.size w w' := by
  have HL := Lib.hid hr.len
  have HS := Lib.hid hs; clear hs
  have HR := Lib.hid hr; clear hr
  go_enter Tryz.func139, Tryz.ntmps139
  go_wp2_with fail
  go_loopw [3, 8] (fun bf i wr => ∃ k : Nat, k ≤ n ∧ i = .int .i64 k ∧ bf = .int .i64 (lastId t k) ∧ Below w.heap.size w wr ∧ Hid (okTo t k)) (fun _ i _ => n - (intOf i).toNat)
  case atStart => exact ⟨0, Nat.zero_le _, rfl, rfl, Below.refl _ _, okTo_zero t⟩
  case round =>
    obtain ⟨k, hk, rfl, rfl, hb, hall⟩ := hrel
    by_cases hlt : k < n
    · obtain ⟨g, off, rfl, hg, hx⟩ := HR.out.at hlt
      replace hx := hx.below hb hg
      have hkt : k < t.length := by rw [HL.out]; exact hlt
      have hsz := HS.out k hkt
      have HRb := Lib.hid ((HR.out.below hb).take (k := k) (by omega)); clear HR
      have hno : entryOk t k = false → isTable t = false := table_no hkt
      have hyes : entryOk t k = true → okTo t (k + 1) ∧ lastId t (k + 1) = (ndOf t k).id := fun h => ⟨okTo_succ hall.out h, rfl⟩
      have e1 := entry_nd (t := t) (k := k)
      have e2 := entry_up (t := t) (k := k)
      have e3 := entry_new (t := t) (k := k) (by omega)
      have e4 := entry_yes (t := t) (k := k) (by omega)
      obtain ⟨x, hxe⟩ : ∃ x, x = ndOf t k := ⟨_, rfl⟩
      obtain ⟨y, hye⟩ : ∃ y, y = lastId t k := ⟨_, rfl⟩
      obtain ⟨y', hye'⟩ : ∃ y, y = lastId t (k + 1) := ⟨_, rfl⟩
      rw [← hxe] at hx hsz e1 e2 e3 e4 hyes
      rw [← hye] at e2 e4 ⊢
      rw [← hye'] at hyes
      have HSZ := Lib.hid hsz
      have HNO := Lib.hid hno; have HYES := Lib.hid hyes; have E1 := Lib.hid e1; have E2 := Lib.hid e2; have E3 := Lib.hid e3; have E4 := Lib.hid e4; have HYE := Lib.hid hye'
      clear hno hyes e1 e2 e3 e4 hye hxe hkt hsz hye'
      have HALL := Lib.hid hall; clear hall
      have HB0 := Lib.hid hb; clear hb
      obtain ⟨h0, h1, h2, h3⟩ := hx
      go_upto_region 5 with fail
      have hat := NdAt.new (T := 130) (x := x) wr
      have hbb : Below wr.heap.size wr (wr.alloc (.cells #[.int .i64 x.id, .string x.name, .int .i64 x.drift, .bool x.pas] 130)) := (Below.refl _ _).alloc (Nat.le_refl _) _
      have HB1 := Lib.hid (below_two HB0.out hbb)
      have HR1 := Lib.hid (HRb.out.below hbb)
      have hbl : wr.heap.size < (wr.alloc (.cells #[.int .i64 x.id, .string x.name, .int .i64 x.drift, .bool x.pas] 130)).heap.size := hat.lt
      clear h0 h1 h2 h3 hbb HB0 HRb
      generalize wr.heap.size = b at hat hbl ⊢
      generalize wr.alloc (.cells #[.int .i64 x.id, .string x.name, .int .i64 x.drift, .bool x.pas] 130) = w1 at hat hbl HB1 HR1 ⊢
      have HAT := Lib.hid hat; have HBL := Lib.hid hbl; clear hat hbl
      have hcall := fun W => isNodeInfo_any x W HSZ.out
      unfold ndVal at hcall
      have HCALL := Lib.hid hcall; clear hcall
      have hkc : (k : Int) ≤ (cap : Int) := by omega
      have hk0 : (0 : Int) ≤ (k : Int) := by omega
      obtain ⟨xi, xn, xf, xp⟩ := x
      dsimp only at *
      rcases hnd : isNd ⟨xi, xn, xf, xp⟩ with _ | _
      · have HF := Lib.hid (HNO.out (E1.out hnd))
        refine wp_region_held_drew (S := fun w' => w'.cell? ⟨b, 0, none⟩ = some (.int .i64 xi) ∧ w'.cell? ⟨b, 1, none⟩ = some (.string xn) ∧ w'.cell? ⟨b, 2, none⟩ = some (.int .i64 xf) ∧ w'.cell? ⟨b, 3, none⟩ = some (.bool xp)) (by kernel_rfl) (⟨(HAT.out).in_.c0, (HAT.out).in_.c1, (HAT.out).in_.c2, (HAT.out).in_.c3⟩) (fun hHeld => ?_)
        refine tk (i := 0) (v := ?_) rfl (Or.inl ⟨by rfl, ?_⟩) (by assumption) ?_
        rotate_left
        · (intro w hSw; (try dsimp only at hSw); go_simp; (try with_reducible rfl))
        try simp only [pa, pb, pc, Act.put, pe, pf, pg]
        refine wpAnyH_ready (rs := [1]) (by kernel_rfl) (by simp) (AllReadyH.cons rfl (fun K hK => ?_) AllReadyH.nil)
        go_simp
        refine (HCALL.out _).mono ?_
        rintro e w2 ⟨rfl, b2⟩
        rw [hnd]
        replace b2 := below_two (Below.drew (Below.refl w1.heap.size w1)) b2
        have HAT2 := Lib.hid (HAT.out.below b2 HBL.out)
        have HB2 := Lib.hid (below_two HB1.out b2)
        clear b2
        go_wp2_with fail
        refine hK.out _ _ ?_ (fun hHeld => ?_)
        · exact ⟨(HAT2.out).in_.c0, (HAT2.out).in_.c1, (HAT2.out).in_.c2, (HAT2.out).in_.c3⟩
        clear hK K
        try simp only [pa, pb, pc, Act.put, pe, pf, pg]
        refine tk (i := 2) (v := ?_) rfl (Or.inl ⟨by rfl, ?_⟩) (by assumption) ?_
        rotate_left
        · (intro w hSw; (try dsimp only at hSw); go_simp; (try with_reducible rfl))
        try simp only [pa, pb, pc, Act.put, pe, pf, pg]
        refine tk (i := 3) (v := ?_) rfl (Or.inl ⟨by rfl, ?_⟩) (by assumption) ?_
        rotate_left
        · (intro w hSw; (try dsimp only at hSw); go_simp; (try with_reducible rfl))
        try simp only [pa, pb, pc, Act.put, pe, pf, pg]
        refine tk (i := 4) (v := undef) rfl (Or.inr ⟨by rfl, rfl⟩) (by assumption) ?_
        try simp only [pa, pb, pc, Act.put, pe, pf, pg]
        refine tk (i := 5) (v := undef) rfl (Or.inr ⟨by rfl, rfl⟩) (by assumption) ?_
        try simp only [pa, pb, pc, Act.put, pe, pf, pg]
        refine tk (i := 6) (v := undef) rfl (Or.inr ⟨by rfl, rfl⟩) (by assumption) ?_
        try simp only [pa, pb, pc, Act.put, pe, pf, pg]
        refine tk (i := 7) (v := undef) rfl (Or.inr ⟨by rfl, rfl⟩) (by assumption) ?_
        try simp only [pa, pb, pc, Act.put, pe, pf, pg]
        refine tk (i := 8) (v := ?_) rfl (Or.inl ⟨by rfl, ?_⟩) (by assumption) ?_
        rotate_left
        · (intro w hSw; (try dsimp only at hSw); go_simp; (try with_reducible rfl))
        try simp only [pa, pb, pc, Act.put, pe, pf, pg]
        refine tk (i := 9) (v := ?_) rfl (Or.inl ⟨by rfl, ?_⟩) (by assumption) ?_
        rotate_left
        · (intro w hSw; (try dsimp only at hSw); go_simp; (try with_reducible rfl))
        try simp only [pa, pb, pc, Act.put, pe, pf, pg]
        refine tk (i := 10) (v := undef) rfl (Or.inr ⟨by rfl, rfl⟩) (by assumption) ?_
        try simp only [pa, pb, pc, Act.put, pe, pf, pg]
        refine tk (i := 11) (v := undef) rfl (Or.inr ⟨by rfl, rfl⟩) (by assumption) ?_
        try simp only [pa, pb, pc, Act.put, pe, pf, pg]
        refine tk (i := 12) (v := undef) rfl (Or.inr ⟨by rfl, rfl⟩) (by assumption) ?_
        try simp only [pa, pb, pc, Act.put, pe, pf, pg]
        refine tk (i := 13) (v := undef) rfl (Or.inr ⟨by rfl, rfl⟩) (by assumption) ?_
        try simp only [pa, pb, pc, Act.put, pe, pf, pg]
        refine tk (i := 14) (v := undef) rfl (Or.inr ⟨by rfl, rfl⟩) (by assumption) ?_
        try simp only [pa, pb, pc, Act.put, pe, pf, pg]
        refine tk (i := 15) (v := undef) rfl (Or.inr ⟨by rfl, rfl⟩) (by assumption) ?_
        try simp only [pa, pb, pc, Act.put, pe, pf, pg]
        refine tk (i := 16) (v := ?_) rfl (Or.inl ⟨by rfl, ?_⟩) (by assumption) ?_
        rotate_left
        · (intro w hSw; (try dsimp only at hSw); go_simp; (try with_reducible rfl))
        try simp only [pa, pb, pc, Act.put, pe, pf, pg]
        refine wpAnyH_done (by kernel_rfl) ?_ _
        go_wp2_with fail
        go_ret
        rw [HF.out]
        exact ⟨rfl, HB2.out⟩
      · by_cases hle : xi ≤ y
        · have HF := Lib.hid (HNO.out (E2.out hnd hle))
          refine wp_region_held_drew (S := fun w' => w'.cell? ⟨b, 0, none⟩ = some (.int .i64 xi) ∧ w'.cell? ⟨b, 1, none⟩ = some (.string xn) ∧ w'.cell? ⟨b, 2, none⟩ = some (.int .i64 xf) ∧ w'.cell? ⟨b, 3, none⟩ = some (.bool xp)) (by kernel_rfl) (⟨(HAT.out).in_.c0, (HAT.out).in_.c1, (HAT.out).in_.c2, (HAT.out).in_.c3⟩) (fun hHeld => ?_)
          refine tk (i := 0) (v := ?_) rfl (Or.inl ⟨by rfl, ?_⟩) (by assumption) ?_
          rotate_left
          · (intro w hSw; (try dsimp only at hSw); go_simp; (try with_reducible rfl))
          try simp only [pa, pb, pc, Act.put, pe, pf, pg]
          refine wpAnyH_ready (rs := [1]) (by kernel_rfl) (by simp) (AllReadyH.cons rfl (fun K hK => ?_) AllReadyH.nil)
          go_simp
          refine (HCALL.out _).mono ?_
          rintro e w2 ⟨rfl, b2⟩
          rw [hnd]
          replace b2 := below_two (Below.drew (Below.refl w1.heap.size w1)) b2
          have HAT2 := Lib.hid (HAT.out.below b2 HBL.out)
          have HB2 := Lib.hid (below_two HB1.out b2)
          clear b2
          go_wp2_with fail
          refine hK.out _ _ ?_ (fun hHeld => ?_)
          · exact ⟨(HAT2.out).in_.c0, (HAT2.out).in_.c1, (HAT2.out).in_.c2, (HAT2.out).in_.c3⟩
          clear hK K
          try simp only [pa, pb, pc, Act.put, pe, pf, pg]
          refine tk (i := 2) (v := ?_) rfl (Or.inl ⟨by rfl, ?_⟩) (by assumption) ?_
          rotate_left
          · (intro w hSw; (try dsimp only at hSw); go_simp; (try with_reducible rfl))
          try simp only [pa, pb, pc, Act.put, pe, pf, pg]
          refine tk (i := 3) (v := ?_) rfl (Or.inl ⟨by rfl, ?_⟩) (by assumption) ?_
          rotate_left
          · (intro w hSw; (try dsimp only at hSw); go_simp; (try with_reducible rfl))
          try simp only [pa, pb, pc, Act.put, pe, pf, pg]
          refine tk (i := 4) (v := ?_) rfl (Or.inl ⟨by rfl, ?_⟩) (by assumption) ?_
          rotate_left
          · (intro w hSw; (try dsimp only at hSw); go_simp; (try with_reducible rfl))
          try simp only [pa, pb, pc, Act.put, pe, pf, pg]
          refine tk (i := 5) (v := ?_) rfl (Or.inl ⟨by rfl, ?_⟩) (by assumption) ?_
          rotate_left
          · (intro w hSw; (try dsimp only at hSw); go_simp; (try with_reducible rfl))
          try simp only [pa, pb, pc, Act.put, pe, pf, pg]
          refine tk (i := 6) (v := ?_) rfl (Or.inl ⟨by rfl, ?_⟩) (by assumption) ?_
          rotate_left
          · (intro w hSw; (try dsimp only at hSw); go_simp; (try with_reducible rfl))
          try simp only [pa, pb, pc, Act.put, pe, pf, pg]
          refine tk (i := 7) (v := ?_) rfl (Or.inl ⟨by rfl, ?_⟩) (by assumption) ?_
          rotate_left
          · (intro w hSw; (try dsimp only at hSw); go_simp; (try with_reducible rfl))
          try simp only [pa, pb, pc, Act.put, pe, pf, pg]
          refine tk (i := 8) (v := ?_) rfl (Or.inl ⟨by rfl, ?_⟩) (by assumption) ?_
          rotate_left
          · (intro w hSw; (try dsimp only at hSw); go_simp; (try with_reducible rfl))
          try simp only [pa, pb, pc, Act.put, pe, pf, pg]
          refine tk (i := 9) (v := ?_) rfl (Or.inl ⟨by rfl, ?_⟩) (by assumption) ?_
          rotate_left
          · (intro w hSw; (try dsimp only at hSw); go_simp; (try with_reducible rfl))
          try simp only [pa, pb, pc, Act.put, pe, pf, pg]
          refine tk (i := 10) (v := undef) rfl (Or.inr ⟨by rfl, rfl⟩) (by assumption) ?_
          try simp only [pa, pb, pc, Act.put, pe, pf, pg]
          refine tk (i := 11) (v := undef) rfl (Or.inr ⟨by rfl, rfl⟩) (by assumption) ?_
          try simp only [pa, pb, pc, Act.put, pe, pf, pg]
          refine tk (i := 12) (v := undef) rfl (Or.inr ⟨by rfl, rfl⟩) (by assumption) ?_
          try simp only [pa, pb, pc, Act.put, pe, pf, pg]
          refine tk (i := 13) (v := undef) rfl (Or.inr ⟨by rfl, rfl⟩) (by assumption) ?_
          try simp only [pa, pb, pc, Act.put, pe, pf, pg]
          refine tk (i := 14) (v := undef) rfl (Or.inr ⟨by rfl, rfl⟩) (by assumption) ?_
          try simp only [pa, pb, pc, Act.put, pe, pf, pg]
          refine tk (i := 15) (v := undef) rfl (Or.inr ⟨by rfl, rfl⟩) (by assumption) ?_
          try simp only [pa, pb, pc, Act.put, pe, pf, pg]
          refine tk (i := 16) (v := ?_) rfl (Or.inl ⟨by rfl, ?_⟩) (by assumption) ?_
          rotate_left
          · (intro w hSw; (try dsimp only at hSw); go_simp; (try with_reducible rfl))
          try simp only [pa, pb, pc, Act.put, pe, pf, pg]
          refine wpAnyH_done (by kernel_rfl) ?_ _
          go_wp2_with fail
          go_ret
          rw [HF.out]
          exact ⟨rfl, HB2.out⟩
        · have hled : decide (xi ≤ y) = false := decide_eq_false hle
          have HLE := Lib.hid hle; clear hle
          rcases hnm : hasNm (t.take k) xn with _ | _
          · obtain ⟨HO, HY2⟩ := HYES.out (E4.out hnd HLE.out hnm)
            have HOK := Lib.hid HO; have HY := Lib.hid HY2; clear HO HY2
            refine wp_region_held_drew (S := fun w' => w'.cell? ⟨b, 0, none⟩ = some (.int .i64 xi) ∧ w'.cell? ⟨b, 1, none⟩ = some (.string xn) ∧ w'.cell? ⟨b, 2, none⟩ = some (.int .i64 xf) ∧ w'.cell? ⟨b, 3, none⟩ = some (.bool xp)) (by kernel_rfl) (⟨(HAT.out).in_.c0, (HAT.out).in_.c1, (HAT.out).in_.c2, (HAT.out).in_.c3⟩) (fun hHeld => ?_)
            refine tk (i := 0) (v := ?_) rfl (Or.inl ⟨by rfl, ?_⟩) (by assumption) ?_
            rotate_left
            · (intro w hSw; (try dsimp only at hSw); go_simp; (try with_reducible rfl))
            try simp only [pa, pb, pc, Act.put, pe, pf, pg]
            refine wpAnyH_ready (rs := [1]) (by kernel_rfl) (by simp) (AllReadyH.cons rfl (fun K hK => ?_) AllReadyH.nil)
            go_simp
            refine (HCALL.out _).mono ?_
            rintro e w2 ⟨rfl, b2⟩
            rw [hnd]
            replace b2 := below_two (Below.drew (Below.refl w1.heap.size w1)) b2
            have HAT2 := Lib.hid (HAT.out.below b2 HBL.out)
            have HB2 := Lib.hid (below_two HB1.out b2)
            have HR2 := Lib.hid (HR1.out.below b2)
            have HBL2 := Lib.hid (Nat.lt_of_lt_of_le HBL.out b2.size)
            clear b2
            go_wp2_with fail
            refine hK.out _ _ ?_ (fun hHeld => ?_)
            · exact ⟨(HAT2.out).in_.c0, (HAT2.out).in_.c1, (HAT2.out).in_.c2, (HAT2.out).in_.c3⟩
            clear hK K
            try simp only [pa, pb, pc, Act.put, pe, pf, pg]
            refine tk (i := 2) (v := ?_) rfl (Or.inl ⟨by rfl, ?_⟩) (by assumption) ?_
            rotate_left
            · (intro w hSw; (try dsimp only at hSw); go_simp; (try with_reducible rfl))
            try simp only [pa, pb, pc, Act.put, pe, pf, pg]
            refine tk (i := 3) (v := ?_) rfl (Or.inl ⟨by rfl, ?_⟩) (by assumption) ?_
            rotate_left
            · (intro w hSw; (try dsimp only at hSw); go_simp; (try with_reducible rfl))
            try simp only [pa, pb, pc, Act.put, pe, pf, pg]
            refine tk (i := 4) (v := ?_) rfl (Or.inl ⟨by rfl, ?_⟩) (by assumption) ?_
            rotate_left
            · (intro w hSw; (try dsimp only at hSw); go_simp; (try with_reducible rfl))
            try simp only [pa, pb, pc, Act.put, pe, pf, pg]
            refine tk (i := 5) (v := ?_) rfl (Or.inl ⟨by rfl, ?_⟩) (by assumption) ?_
            rotate_left
            · (intro w hSw; (try dsimp only at hSw); go_simp; (try with_reducible rfl))
            try simp only [pa, pb, pc, Act.put, pe, pf, pg]
            refine tk (i := 6) (v := ?_) rfl (Or.inl ⟨by rfl, ?_⟩) (by assumption) ?_
            rotate_left
            · (intro w hSw; (try dsimp only at hSw); go_simp; (try with_reducible rfl))
            try simp only [pa, pb, pc, Act.put, pe, pf, pg]
            refine tk (i := 7) (v := ?_) rfl (Or.inl ⟨by rfl, ?_⟩) (by assumption) ?_
            rotate_left
            · (intro w hSw; (try dsimp only at hSw); go_simp; (try with_reducible rfl))
            try simp only [pa, pb, pc, Act.put, pe, pf, pg]
            refine tk (i := 8) (v := ?_) rfl (Or.inl ⟨by rfl, ?_⟩) (by assumption) ?_
            rotate_left
            · (intro w hSw; (try dsimp only at hSw); go_simp; (try with_reducible rfl))
            try simp only [pa, pb, pc, Act.put, pe, pf, pg]
            refine tk (i := 9) (v := ?_) rfl (Or.inl ⟨by rfl, ?_⟩) (by assumption) ?_
            rotate_left
            · (intro w hSw; (try dsimp only at hSw); go_simp; (try with_reducible rfl))
            try simp only [pa, pb, pc, Act.put, pe, pf, pg]
            refine tk (i := 10) (v := ?_) rfl (Or.inl ⟨by rfl, ?_⟩) (by assumption) ?_
            rotate_left
            · (intro w hSw; (try dsimp only at hSw); go_simp; (try with_reducible rfl))
            try simp only [pa, pb, pc, Act.put, pe, pf, pg]
            refine tk (i := 11) (v := ?_) rfl (Or.inl ⟨by rfl, ?_⟩) (by assumption) ?_
            rotate_left
            · (intro w hSw; (try dsimp only at hSw); go_simp; (try with_reducible rfl))
            try simp only [pa, pb, pc, Act.put, pe, pf, pg]
            refine tk (i := 12) (v := ?_) rfl (Or.inl ⟨by rfl, ?_⟩) (by assumption) ?_
            rotate_left
            · (intro w hSw; (try dsimp only at hSw); go_simp; (try with_reducible rfl))
            try simp only [pa, pb, pc, Act.put, pe, pf, pg]
            refine tk (i := 13) (v := ?_) rfl (Or.inl ⟨by rfl, ?_⟩) (by assumption) ?_
            rotate_left
            · (intro w hSw; (try dsimp only at hSw); go_simp; (try with_reducible rfl))
            try simp only [pa, pb, pc, Act.put, pe, pf, pg]
            refine tk (i := 14) (v := ?_) rfl (Or.inl ⟨by rfl, ?_⟩) (by assumption) ?_
            rotate_left
            · (intro w hSw; (try dsimp only at hSw); go_simp; (try with_reducible rfl))
            try simp only [pa, pb, pc, Act.put, pe, pf, pg]
            refine wpAnyH_ready (rs := [15]) (by kernel_rfl) (by simp) (AllReadyH.cons rfl (fun K hK => ?_) AllReadyH.nil)
            go_simp
            refine (hasName_any _ _ _ _ _ _ HR2.out (by omega)).mono ?_
            rintro e w3 ⟨rfl, b3⟩
            rw [hnm]
            have HAT3 := Lib.hid (HAT2.out.below b3 HBL2.out)
            have HB3 := Lib.hid (below_two HB2.out b3)
            clear b3
            go_wp2_with fail
            refine hK.out _ _ ?_ (fun hHeld => ?_)
            · exact ⟨(HAT3.out).in_.c0, (HAT3.out).in_.c1, (HAT3.out).in_.c2, (HAT3.out).in_.c3⟩
            clear hK K
            try simp only [pa, pb, pc, Act.put, pe, pf, pg]
            refine tk (i := 16) (v := ?_) rfl (Or.inl ⟨by rfl, ?_⟩) (by assumption) ?_
            rotate_left
            · (intro w hSw; (try dsimp only at hSw); go_simp; (try with_reducible rfl))
            try simp only [pa, pb, pc, Act.put, pe, pf, pg]
            refine wpAnyH_done (by kernel_rfl) ?_ _
            obtain ⟨h0, h1, h2, h3⟩ := HAT3.out.in_
            go_wp2_with fail
            go_roundw
            case rel => exact ⟨k + 1, by omega, by go_num, by rw [← HYE.out, HY.out], HB3.out, HOK.out⟩
            case measure => simp [intOf]; omega
          · have HF := Lib.hid (HNO.out (E3.out hnm))
            refine wp_region_held_drew (S := fun w' => w'.cell? ⟨b, 0, none⟩ = some (.int .i64 xi) ∧ w'.cell? ⟨b, 1, none⟩ = some (.string xn) ∧ w'.cell? ⟨b, 2, none⟩ = some (.int .i64 xf) ∧ w'.cell? ⟨b, 3, none⟩ = some (.bool xp)) (by kernel_rfl) (⟨(HAT.out).in_.c0, (HAT.out).in_.c1, (HAT.out).in_.c2, (HAT.out).in_.c3⟩) (fun hHeld => ?_)
            refine tk (i := 0) (v := ?_) rfl (Or.inl ⟨by rfl, ?_⟩) (by assumption) ?_
            rotate_left
            · (intro w hSw; (try dsimp only at hSw); go_simp; (try with_reducible rfl))
            try simp only [pa, pb, pc, Act.put, pe, pf, pg]
            refine wpAnyH_ready (rs := [1]) (by kernel_rfl) (by simp) (AllReadyH.cons rfl (fun K hK => ?_) AllReadyH.nil)
            go_simp
            refine (HCALL.out _).mono ?_
            rintro e w2 ⟨rfl, b2⟩
            rw [hnd]
            replace b2 := below_two (Below.drew (Below.refl w1.heap.size w1)) b2
            have HAT2 := Lib.hid (HAT.out.below b2 HBL.out)
            have HB2 := Lib.hid (below_two HB1.out b2)
            have HR2 := Lib.hid (HR1.out.below b2)
            have HBL2 := Lib.hid (Nat.lt_of_lt_of_le HBL.out b2.size)
            clear b2
            go_wp2_with fail
            refine hK.out _ _ ?_ (fun hHeld => ?_)
            · exact ⟨(HAT2.out).in_.c0, (HAT2.out).in_.c1, (HAT2.out).in_.c2, (HAT2.out).in_.c3⟩
            clear hK K
            try simp only [pa, pb, pc, Act.put, pe, pf, pg]
            refine tk (i := 2) (v := ?_) rfl (Or.inl ⟨by rfl, ?_⟩) (by assumption) ?_
            rotate_left
            · (intro w hSw; (try dsimp only at hSw); go_simp; (try with_reducible rfl))
            try simp only [pa, pb, pc, Act.put, pe, pf, pg]
            refine tk (i := 3) (v := ?_) rfl (Or.inl ⟨by rfl, ?_⟩) (by assumption) ?_
            rotate_left
            · (intro w hSw; (try dsimp only at hSw); go_simp; (try with_reducible rfl))
            try simp only [pa, pb, pc, Act.put, pe, pf, pg]
            refine tk (i := 4) (v := ?_) rfl (Or.inl ⟨by rfl, ?_⟩) (by assumption) ?_
            rotate_left
            · (intro w hSw; (try dsimp only at hSw); go_simp; (try with_reducible rfl))
            try simp only [pa, pb, pc, Act.put, pe, pf, pg]
            refine tk (i := 5) (v := ?_) rfl (Or.inl ⟨by rfl, ?_⟩) (by assumption) ?_
            rotate_left
            · (intro w hSw; (try dsimp only at hSw); go_simp; (try with_reducible rfl))
            try simp only [pa, pb, pc, Act.put, pe, pf, pg]
            refine tk (i := 6) (v := ?_) rfl (Or.inl ⟨by rfl, ?_⟩) (by assumption) ?_
            rotate_left
            · (intro w hSw; (try dsimp only at hSw); go_simp; (try with_reducible rfl))
            try simp only [pa, pb, pc, Act.put, pe, pf, pg]
            refine tk (i := 7) (v := ?_) rfl (Or.inl ⟨by rfl, ?_⟩) (by assumption) ?_
            rotate_left
            · (intro w hSw; (try dsimp only at hSw); go_simp; (try with_reducible rfl))
            try simp only [pa, pb, pc, Act.put, pe, pf, pg]
            refine tk (i := 8) (v := ?_) rfl (Or.inl ⟨by rfl, ?_⟩) (by assumption) ?_
            rotate_left
            · (intro w hSw; (try dsimp only at hSw); go_simp; (try with_reducible rfl))
            try simp only [pa, pb, pc, Act.put, pe, pf, pg]
            refine tk (i := 9) (v := ?_) rfl (Or.inl ⟨by rfl, ?_⟩) (by assumption) ?_
            rotate_left
            · (intro w hSw; (try dsimp only at hSw); go_simp; (try with_reducible rfl))
            try simp only [pa, pb, pc, Act.put, pe, pf, pg]
            refine tk (i := 10) (v := ?_) rfl (Or.inl ⟨by rfl, ?_⟩) (by assumption) ?_
            rotate_left
            · (intro w hSw; (try dsimp only at hSw); go_simp; (try with_reducible rfl))
            try simp only [pa, pb, pc, Act.put, pe, pf, pg]
            refine tk (i := 11) (v := ?_) rfl (Or.inl ⟨by rfl, ?_⟩) (by assumption) ?_
            rotate_left
            · (intro w hSw; (try dsimp only at hSw); go_simp; (try with_reducible rfl))
            try simp only [pa, pb, pc, Act.put, pe, pf, pg]
            refine tk (i := 12) (v := ?_) rfl (Or.inl ⟨by rfl, ?_⟩) (by assumption) ?_
            rotate_left
            · (intro w hSw; (try dsimp only at hSw); go_simp; (try with_reducible rfl))
            try simp only [pa, pb, pc, Act.put, pe, pf, pg]
            refine tk (i := 13) (v := ?_) rfl (Or.inl ⟨by rfl, ?_⟩) (by assumption) ?_
            rotate_left
            · (intro w hSw; (try dsimp only at hSw); go_simp; (try with_reducible rfl))
            try simp only [pa, pb, pc, Act.put, pe, pf, pg]
            refine tk (i := 14) (v := ?_) rfl (Or.inl ⟨by rfl, ?_⟩) (by assumption) ?_
            rotate_left
            · (intro w hSw; (try dsimp only at hSw); go_simp; (try with_reducible rfl))
            try simp only [pa, pb, pc, Act.put, pe, pf, pg]
            refine wpAnyH_ready (rs := [15]) (by kernel_rfl) (by simp) (AllReadyH.cons rfl (fun K hK => ?_) AllReadyH.nil)
            go_simp
            refine (hasName_any _ _ _ _ _ _ HR2.out (by omega)).mono ?_
            rintro e w3 ⟨rfl, b3⟩
            rw [hnm]
            have HAT3 := Lib.hid (HAT2.out.below b3 HBL2.out)
            have HB3 := Lib.hid (below_two HB2.out b3)
            clear b3
            go_wp2_with fail
            refine hK.out _ _ ?_ (fun hHeld => ?_)
            · exact ⟨(HAT3.out).in_.c0, (HAT3.out).in_.c1, (HAT3.out).in_.c2, (HAT3.out).in_.c3⟩
            clear hK K
            try simp only [pa, pb, pc, Act.put, pe, pf, pg]
            refine tk (i := 16) (v := ?_) rfl (Or.inl ⟨by rfl, ?_⟩) (by assumption) ?_
            rotate_left
            · (intro w hSw; (try dsimp only at hSw); go_simp; (try with_reducible rfl))
            try simp only [pa, pb, pc, Act.put, pe, pf, pg]
            refine wpAnyH_done (by kernel_rfl) ?_ _
            go_wp2_with fail
            go_ret
            rw [HF.out]
            exact ⟨rfl, HB3.out⟩
    · have hkn : k = n := by omega
      subst hkn
      have HB := Lib.hid hb; clear hb
      go_wp2_with fail
      go_ret
      exact ⟨ret_bool (by rw [table_len (by rw [HL.out]; exact hall.out), HL.out]; first | done | simp), HB.out⟩
end

section
open Go.RowKit
theorem table_size {t : List Nd} (h : inRange 1 32 (t.length : Int) = false) : isTable t = false := by
  rw [Bool.eq_false_iff]
  intro hc
  have := (isTable_iff.1 hc).1
  rw [Bool.eq_false_iff] at h
  exact h (inR10.2 (by omega))
theorem table_ok {t : List Nd} (h : inRange 1 32 (t.length : Int) = true) (h2 : okTo t t.length) : isTable t = true := by
  have := inR10.1 h
  exact isTable_iff.2 ⟨by omega, h2⟩
theorem lastId_pred {t : List Nd} {k : Nat} (h : 0 < k) : (ndOf t (k - 1)).id = lastId t k := by
  obtain ⟨j, rfl⟩ : ∃ j, k = j + 1 := ⟨k - 1, by omega⟩
  rfl
set_option maxHeartbeats 2000000 in
set_option maxRecDepth 100000 in
set_option linter.unusedSimpArgs false in
theorem sIsTable_any (ao : Option Addr) (n cap : Nat) (t : List Nd) (w : World) (hr : RdN w ao n t) (hn : n ≤ cap) (hcap : cap ≤ 9223372036854775807) (hs : smallN t) :
    Calls Tryz.prog 195 #[.slice ao n cap] w fun e w' => e = .returned (.bool (isTable t)) ∧ Below w.heap.size w w' := by
  have HL := Lib.hid hr.len
  have HS := Lib.hid hs; clear hs
  have HR := Lib.hid hr; clear hr
  rcases hin : inRange 1 32 (n : Int) with _ | _
  · have HF := Lib.hid (table_size (t := t) (by rw [HL.out]; exact hin))
    go_enter Tryz.func195, Tryz.ntmps195
    go_wp2_with (go_at_call 180; refine (l01In_any _ _ _ _).mono ?_; rintro e w' ⟨rfl, rfl⟩; rw [hin])
    go_ret
    rw [HF.out]
    exact ⟨rfl, Below.refl _ _⟩
  go_enter Tryz.func195, Tryz.ntmps195
  go_wp2_with (go_at_call 180; refine (l01In_any _ _ _ _).mono ?_; rintro e w' ⟨rfl, rfl⟩; rw [hin])
  go_loopw [3] (fun i wr => ∃ k : Nat, k ≤ n ∧ i = .int .i64 k ∧ Below w.heap.size w wr ∧ Hid (okTo t k)) (fun i _ => n - (intOf i).toNat)
  case atStart => exact ⟨0, Nat.zero_le _, rfl, Below.refl _ _, okTo_zero t⟩
  case round =>
    obtain ⟨k, hk, rfl, hb, hall⟩ := hrel
    by_cases hlt : k < n
    · have hkt : k < t.length := by rw [HL.out]; exact hlt
      have hsz := HS.out k hkt
      have hrb := HR.out.below hb; clear HR
      obtain ⟨g, off, rfl, hg, hx⟩ := hrb.at hlt
      have hp : 0 < k → NdIn wr g (off + (k - 1) * 4) (ndOf t (k - 1)) := fun h0 => by
        obtain ⟨g', off', e, -, h⟩ := hrb.at (i := k - 1) (by omega)
        cases e; exact h
      have HRb := Lib.hid hrb; clear hrb
      have hno : entryOk t k = false → isTable t = false := table_no hkt
      have hyes : entryOk t k = true → okTo t (k + 1) := fun h => okTo_succ hall.out h
      have e1 := entry_nd (t := t) (k := k)
      have e2 := entry_up (t := t) (k := k)
      have e3 := entry_new (t := t) (k := k) (by omega)
      have e4 := entry_yes (t := t) (k := k) (by omega)
      have hy0 : 0 < k → (ndOf t (k - 1)).id = lastId t k := lastId_pred
      have hz0 : k = 0 → lastId t k = -1 := fun h => by subst h; rfl
      obtain ⟨x, hxe⟩ : ∃ x, x = ndOf t k := ⟨_, rfl⟩
      obtain ⟨y, hye⟩ : ∃ y, y = lastId t k := ⟨_, rfl⟩
      rw [← hxe] at hx hsz e1 e2 e3 e4
      rw [← hye] at e2 e4 hy0 hz0
      have HXE := Lib.hid hxe
      have HSZ := Lib.hid hsz
      have HNO := Lib.hid hno; have HYES := Lib.hid hyes; have E1 := Lib.hid e1; have E2 := Lib.hid e2; have E3 := Lib.hid e3; have E4 := Lib.hid e4; have HY0 := Lib.hid hy0; have HZ0 := Lib.hid hz0; have HP := Lib.hid hp
      clear hno hyes e1 e2 e3 e4 hye hxe hkt hsz hy0 hz0 hp
      have HALL := Lib.hid hall; clear hall
      have HB0 := Lib.hid hb; clear hb
      have HX := Lib.hid hx; clear hx
      have HG := Lib.hid hg; clear hg
      have hkc : (k : Int) ≤ (cap : Int) := by omega
      have hk0 : (0 : Int) ≤ (k : Int) := by omega
      have hcall := fun W => sIsNodeInfo_any x W HSZ.out
      unfold ndVal at hcall
      have HCALL := Lib.hid hcall; clear hcall
      obtain ⟨xi, xn, xf, xp⟩ := x
      dsimp only at *
      go_upto_region 6 with fail
      rcases hnd : isNd ⟨xi, xn, xf, xp⟩ with _ | _
      · have HF := Lib.hid (HNO.out (E1.out hnd))
        refine wp_region_held_drew (S := fun w' => w'.cell? ⟨g, off + k * 4, none⟩ = some (.int .i64 xi) ∧ w'.cell? ⟨g, off + k * 4 + 1, none⟩ = some (.string xn) ∧ w'.cell? ⟨g, off + k * 4 + 2, none⟩ = some (.int .i64 xf) ∧ w'.cell? ⟨g, off + k * 4 + 3, none⟩ = some (.bool xp)) (by kernel_rfl) (⟨(HX.out).c0, (HX.out).c1, (HX.out).c2, (HX.out).c3⟩) (fun hHeld => ?_)
        refine tk (i := 0) (v := ?_) rfl (Or.inl ⟨by rfl, ?_⟩) (by assumption) ?_
        rotate_left
        · (intro w hSw; (try dsimp only at hSw); go_simp; (try with_reducible rfl))
        try simp only [pa, pb, pc, Act.put, pe, pf, pg]
        refine tk (i := 1) (v := ?_) rfl (Or.inl ⟨by rfl, ?_⟩) (by assumption) ?_
        rotate_left
        · (intro w hSw; (try dsimp only at hSw); go_simp; (try with_reducible rfl))
        try simp only [pa, pb, pc, Act.put, pe, pf, pg]
        refine tk (i := 2) (v := ?_) rfl (Or.inl ⟨by rfl, ?_⟩) (by assumption) ?_
        rotate_left
        · (intro w hSw; (try dsimp only at hSw); go_simp; (try with_reducible rfl))
        try simp only [pa, pb, pc, Act.put, pe, pf, pg]
        refine tk (i := 3) (v := ?_) rfl (Or.inl ⟨by rfl, ?_⟩) (by assumption) ?_
        rotate_left
        · (intro w hSw; (try dsimp only at hSw); go_simp; (try with_reducible rfl))
        try simp only [pa, pb, pc, Act.put, pe, pf, pg]
        refine wpAnyH_ready (rs := [4]) (by kernel_rfl) (by simp) (AllReadyH.cons rfl (fun K hK => ?_) AllReadyH.nil)
        go_simp
        refine (HCALL.out _).mono ?_
        rintro e w2 ⟨rfl, b2⟩
        rw [hnd]
        replace b2 := below_two (Below.drew (Below.refl wr.heap.size wr)) b2
        have HX2 := Lib.hid (HX.out.below b2 HG.out)
        have HB2 := Lib.hid (below_two HB0.out b2)
        clear b2
        go_wp2_with fail
        refine hK.out _ _ ?_ (fun hHeld => ?_)
        · exact ⟨(HX2.out).c0, (HX2.out).c1, (HX2.out).c2, (HX2.out).c3⟩
        clear hK K
        try simp only [pa, pb, pc, Act.put, pe, pf, pg]
        refine tk (i := 5) (v := ?_) rfl (Or.inl ⟨by rfl, ?_⟩) (by assumption) ?_
        rotate_left
        · (intro w hSw; (try dsimp only at hSw); go_simp; (try with_reducible rfl))
        try simp only [pa, pb, pc, Act.put, pe, pf, pg]
        refine tk (i := 6) (v := ?_) rfl (Or.inl ⟨by rfl, ?_⟩) (by assumption) ?_
        rotate_left
        · (intro w hSw; (try dsimp only at hSw); go_simp; (try with_reducible rfl))
        try simp only [pa, pb, pc, Act.put, pe, pf, pg]
        refine tk (i := 7) (v := undef) rfl (Or.inr ⟨by rfl, rfl⟩) (by assumption) ?_
        try simp only [pa, pb, pc, Act.put, pe, pf, pg]
        refine tk (i := 8) (v := undef) rfl (Or.inr ⟨by rfl, rfl⟩) (by assumption) ?_
        try simp only [pa, pb, pc, Act.put, pe, pf, pg]
        refine tk (i := 9) (v := undef) rfl (Or.inr ⟨by rfl, rfl⟩) (by assumption) ?_
        try simp only [pa, pb, pc, Act.put, pe, pf, pg]
        refine tk (i := 10) (v := undef) rfl (Or.inr ⟨by rfl, rfl⟩) (by assumption) ?_
        try simp only [pa, pb, pc, Act.put, pe, pf, pg]
        refine tk (i := 11) (v := undef) rfl (Or.inr ⟨by rfl, rfl⟩) (by assumption) ?_
        try simp only [pa, pb, pc, Act.put, pe, pf, pg]
        refine tk (i := 12) (v := undef) rfl (Or.inr ⟨by rfl, rfl⟩) (by assumption) ?_
        try simp only [pa, pb, pc, Act.put, pe, pf, pg]
        refine tk (i := 13) (v := undef) rfl (Or.inr ⟨by rfl, rfl⟩) (by assumption) ?_
        try simp only [pa, pb, pc, Act.put, pe, pf, pg]
        refine tk (i := 14) (v := undef) rfl (Or.inr ⟨by rfl, rfl⟩) (by assumption) ?_
        try simp only [pa, pb, pc, Act.put, pe, pf, pg]
        refine tk (i := 15) (v := undef) rfl (Or.inr ⟨by rfl, rfl⟩) (by assumption) ?_
        try simp only [pa, pb, pc, Act.put, pe, pf, pg]
        refine tk (i := 16) (v := undef) rfl (Or.inr ⟨by rfl, rfl⟩) (by assumption) ?_
        try simp only [pa, pb, pc, Act.put, pe, pf, pg]
        refine tk (i := 17) (v := undef) rfl (Or.inr ⟨by rfl, rfl⟩) (by assumption) ?_
        try simp only [pa, pb, pc, Act.put, pe, pf, pg]
        refine tk (i := 18) (v := undef) rfl (Or.inr ⟨by rfl, rfl⟩) (by assumption) ?_
        try simp only [pa, pb, pc, Act.put, pe, pf, pg]
        refine tk (i := 19) (v := undef) rfl (Or.inr ⟨by rfl, rfl⟩) (by assumption) ?_
        try simp only [pa, pb, pc, Act.put, pe, pf, pg]
        refine tk (i := 20) (v := undef) rfl (Or.inr ⟨by rfl, rfl⟩) (by assumption) ?_
        try simp only [pa, pb, pc, Act.put, pe, pf, pg]
        refine tk (i := 21) (v := undef) rfl (Or.inr ⟨by rfl, rfl⟩) (by assumption) ?_
        try simp only [pa, pb, pc, Act.put, pe, pf, pg]
        refine tk (i := 22) (v := undef) rfl (Or.inr ⟨by rfl, rfl⟩) (by assumption) ?_
        try simp only [pa, pb, pc, Act.put, pe, pf, pg]
        refine tk (i := 23) (v := ?_) rfl (Or.inl ⟨by rfl, ?_⟩) (by assumption) ?_
        rotate_left
        · (intro w hSw; (try dsimp only at hSw); go_simp; (try with_reducible rfl))
        try simp only [pa, pb, pc, Act.put, pe, pf, pg]
        refine wpAnyH_done (by kernel_rfl) ?_ _
        go_wp2_with fail
        go_ret
        rw [HF.out]
        exact ⟨rfl, HB2.out⟩
      · by_cases hk1 : k = 0
        · have hle : ¬ xi ≤ y := by have h1 := (isNd_iff.1 hnd).1.1; have h2 := HZ0.out hk1; dsimp only at h1; omega
          have HLE := Lib.hid hle; clear hle
          have hkd : decide (0 < k) = false := by rw [decide_eq_false_iff_not]; omega
          have HK1 := Lib.hid hk1; clear hk1
          refine wp_region_held_drew (S := fun w' => w'.cell? ⟨g, off + k * 4, none⟩ = some (.int .i64 xi) ∧ w'.cell? ⟨g, off + k * 4 + 1, none⟩ = some (.string xn) ∧ w'.cell? ⟨g, off + k * 4 + 2, none⟩ = some (.int .i64 xf) ∧ w'.cell? ⟨g, off + k * 4 + 3, none⟩ = some (.bool xp)) (by kernel_rfl) (⟨(HX.out).c0, (HX.out).c1, (HX.out).c2, (HX.out).c3⟩) (fun hHeld => ?_)
          refine tk (i := 0) (v := ?_) rfl (Or.inl ⟨by rfl, ?_⟩) (by assumption) ?_
          rotate_left
          · (intro w hSw; (try dsimp only at hSw); go_simp; (try with_reducible rfl))
          try simp only [pa, pb, pc, Act.put, pe, pf, pg]
          refine tk (i := 1) (v := ?_) rfl (Or.inl ⟨by rfl, ?_⟩) (by assumption) ?_
          rotate_left
          · (intro w hSw; (try dsimp only at hSw); go_simp; (try with_reducible rfl))
          try simp only [pa, pb, pc, Act.put, pe, pf, pg]
          refine tk (i := 2) (v := ?_) rfl (Or.inl ⟨by rfl, ?_⟩) (by assumption) ?_
          rotate_left
          · (intro w hSw; (try dsimp only at hSw); go_simp; (try with_reducible rfl))
          try simp only [pa, pb, pc, Act.put, pe, pf, pg]
          refine tk (i := 3) (v := ?_) rfl (Or.inl ⟨by rfl, ?_⟩) (by assumption) ?_
          rotate_left
          · (intro w hSw; (try dsimp only at hSw); go_simp; (try with_reducible rfl))
          try simp only [pa, pb, pc, Act.put, pe, pf, pg]
          refine wpAnyH_ready (rs := [4]) (by kernel_rfl) (by simp) (AllReadyH.cons rfl (fun K hK => ?_) AllReadyH.nil)
          go_simp
          refine (HCALL.out _).mono ?_
          rintro e w2 ⟨rfl, b2⟩
          rw [hnd]
          replace b2 := below_two (Below.drew (Below.refl wr.heap.size wr)) b2
          have HX2 := Lib.hid (HX.out.below b2 HG.out)
          have HB2 := Lib.hid (below_two HB0.out b2)
          have HR2 := Lib.hid (HRb.out.below b2)
          clear b2
          go_wp2_with fail
          refine hK.out _ _ ?_ (fun hHeld => ?_)
          · exact ⟨(HX2.out).c0, (HX2.out).c1, (HX2.out).c2, (HX2.out).c3⟩
          clear hK K
          try simp only [pa, pb, pc, Act.put, pe, pf, pg]
          refine tk (i := 5) (v := ?_) rfl (Or.inl ⟨by rfl, ?_⟩) (by assumption) ?_
          rotate_left
          · (intro w hSw; (try dsimp only at hSw); go_simp; (try with_reducible rfl))
          try simp only [pa, pb, pc, Act.put, pe, pf, pg]
          refine tk (i := 6) (v := ?_) rfl (Or.inl ⟨by rfl, ?_⟩) (by assumption) ?_
          rotate_left
          · (intro w hSw; (try dsimp only at hSw); go_simp; (try with_reducible rfl))
          try simp only [pa, pb, pc, Act.put, pe, pf, pg]
          refine tk (i := 7) (v := ?_) rfl (Or.inl ⟨by rfl, ?_⟩) (by assumption) ?_
          rotate_left
          · (intro w hSw; (try dsimp only at hSw); go_simp; (try with_reducible rfl))
          try simp only [pa, pb, pc, Act.put, pe, pf, pg]
          refine tk (i := 8) (v := ?_) rfl (Or.inl ⟨by rfl, ?_⟩) (by assumption) ?_
          rotate_left
          · (intro w hSw; (try dsimp only at hSw); go_simp; (try with_reducible rfl))
          try simp only [pa, pb, pc, Act.put, pe, pf, pg]
          refine tk (i := 9) (v := ?_) rfl (Or.inl ⟨by rfl, ?_⟩) (by assumption) ?_
          rotate_left
          · (intro w hSw; (try dsimp only at hSw); go_simp; (try with_reducible rfl))
          try simp only [pa, pb, pc, Act.put, pe, pf, pg]
          refine tk (i := 10) (v := undef) rfl (Or.inr ⟨by rfl, rfl⟩) (by assumption) ?_
          try simp only [pa, pb, pc, Act.put, pe, pf, pg]
          refine tk (i := 11) (v := undef) rfl (Or.inr ⟨by rfl, rfl⟩) (by assumption) ?_
          try simp only [pa, pb, pc, Act.put, pe, pf, pg]
          refine tk (i := 12) (v := undef) rfl (Or.inr ⟨by rfl, rfl⟩) (by assumption) ?_
          try simp only [pa, pb, pc, Act.put, pe, pf, pg]
          refine tk (i := 13) (v := undef) rfl (Or.inr ⟨by rfl, rfl⟩) (by assumption) ?_
          try simp only [pa, pb, pc, Act.put, pe, pf, pg]
          refine tk (i := 14) (v := undef) rfl (Or.inr ⟨by rfl, rfl⟩) (by assumption) ?_
          try simp only [pa, pb, pc, Act.put, pe, pf, pg]
          refine tk (i := 15) (v := undef) rfl (Or.inr ⟨by rfl, rfl⟩) (by assumption) ?_
          try simp only [pa, pb, pc, Act.put, pe, pf, pg]
          refine tk (i := 16) (v := undef) rfl (Or.inr ⟨by rfl, rfl⟩) (by assumption) ?_
          try simp only [pa, pb, pc, Act.put, pe, pf, pg]
          refine tk (i := 17) (v := undef) rfl (Or.inr ⟨by rfl, rfl⟩) (by assumption) ?_
          try simp only [pa, pb, pc, Act.put, pe, pf, pg]
          refine tk (i := 18) (v := undef) rfl (Or.inr ⟨by rfl, rfl⟩) (by assumption) ?_
          try simp only [pa, pb, pc, Act.put, pe, pf, pg]
          refine tk (i := 19) (v := undef) rfl (Or.inr ⟨by rfl, rfl⟩) (by assumption) ?_
          try simp only [pa, pb, pc, Act.put, pe, pf, pg]
          refine tk (i := 20) (v := undef) rfl (Or.inr ⟨by rfl, rfl⟩) (by assumption) ?_
          try simp only [pa, pb, pc, Act.put, pe, pf, pg]
          refine tk (i := 21) (v := undef) rfl (Or.inr ⟨by rfl, rfl⟩) (by assumption) ?_
          try simp only [pa, pb, pc, Act.put, pe, pf, pg]
          refine tk (i := 22) (v := ?_) rfl (Or.inl ⟨by rfl, ?_⟩) (by assumption) ?_
          rotate_left
          · (intro w hSw; (try dsimp only at hSw); go_simp; (try with_reducible rfl))
          try simp only [pa, pb, pc, Act.put, pe, pf, pg]
          refine tk (i := 23) (v := ?_) rfl (Or.inl ⟨by rfl, ?_⟩) (by assumption) ?_
          rotate_left
          · (intro w hSw; (try dsimp only at hSw); go_simp; (try with_reducible rfl))
          try simp only [pa, pb, pc, Act.put, pe, pf, pg]
          refine wpAnyH_done (by kernel_rfl) ?_ _
          go_wp2_with fail
          have HYN := Lib.hid (fun h => HYES.out (E4.out hnd HLE.out h)); have HNN := Lib.hid (fun h => HNO.out (E3.out h))
          clear E1 E2 E3 E4 HNO HYES
          go_loopw [4] (fun i wr2 => ∃ m : Nat, m ≤ k ∧ i = .int .i64 m ∧ (∃ q, wr2 = w2.drewN q) ∧ Hid (hasNm (t.take m) xn = false)) (fun i _ => k - (intOf i).toNat)
          case atStart => exact ⟨0, Nat.zero_le _, rfl, ⟨0, rfl⟩, rfl⟩
          case round =>
            obtain ⟨m, hm, rfl, ⟨q, rfl⟩, hnames⟩ := hrel
            by_cases hmk : m < k
            · obtain ⟨g', off', e, -, hz⟩ := HR2.out.at (i := m) (by omega)
              obtain ⟨g'', off'', e', -, hx⟩ := HR2.out.at (i := k) hlt
              cases e; cases e'
              rw [← HXE.out] at hx
              have hs1 := hasNm_succ (t := t) (s := xn) (k := m) (by rw [HL.out]; omega) hnames.out
              have hs2 := hasNm_yes (t := t.take k) (s := xn) (k := m) (by rw [List.length_take, HL.out]; omega)
              rw [ndOf_take hmk] at hs2
              obtain ⟨z, hze⟩ : ∃ z, z = ndOf t m := ⟨_, rfl⟩
              rw [← hze] at hz hs1 hs2
              have HS1 := Lib.hid hs1; have HS2 := Lib.hid hs2; clear hs1 hs2 hze
              obtain ⟨-, hz1, -, -⟩ := hz
              obtain ⟨-, hx1, -, -⟩ := hx
              have hbq := Lib.bytes_beq_iff z.name xn
              have hd : (z.name.toList == xn.toList) = decide (z.name = xn) := by rw [Bool.eq_iff_iff, hbq, decide_eq_true_eq]
              rcases hc : decide (z.name = xn) with _ | _
              · rw [hc] at hd
                have HC := Lib.hid (HS1.out hc); clear hc hbq HS1 HS2
                go_wp2_with fail
                go_quiet (fail)
                go_wp2_with fail
                go_roundw
                case rel => exact ⟨m + 1, by omega, by go_num, ⟨_, rfl⟩, HC.out⟩
                case measure => simp [intOf]; omega
              · rw [hc] at hd
                have HF := Lib.hid (HNN.out (HS2.out hc)); clear hc hbq HS1 HS2
                go_wp2_with fail
                go_quiet (fail)
                go_wp2_with fail
                go_ret
                rw [HF.out]
                exact ⟨rfl, below_drewN' (below_drewN' HB2.out _) _⟩
            · have hmk : m = k := by omega
              subst hmk
              have HOK := Lib.hid (HYN.out hnames.out)
              go_wp2_with fail
              go_roundw
              case rel => exact ⟨m + 1, by omega, by go_num, below_drewN' HB2.out _, HOK.out⟩
              case measure => simp [intOf]; omega
        · have hk1' : 0 < k := by omega
          have hkd : decide (0 < k) = true := by rw [decide_eq_true_eq]; omega
          have hp1 := (HP.out hk1').c0
          rw [HY0.out hk1'] at hp1
          have HP1 := Lib.hid hp1; clear hp1
          have hkm : IntKind.i64.wrap ((k : Int) - 1) = ((k - 1 : Nat) : Int) := by rw [IntKind.wrap_i64]; omega
          have hkm1 : ((k - 1 : Nat) : Int) < (n : Int) := by omega
          have hkm0 : (0 : Int) ≤ ((k - 1 : Nat) : Int) := by omega
          have HK1 := Lib.hid hk1'; clear hk1 hk1'
          by_cases hle : xi ≤ y
          · have HF := Lib.hid (HNO.out (E2.out hnd hle))
            refine wp_region_held_drew (S := fun w' => w'.cell? ⟨g, off + k * 4, none⟩ = some (.int .i64 xi) ∧ w'.cell? ⟨g, off + k * 4 + 1, none⟩ = some (.string xn) ∧ w'.cell? ⟨g, off + k * 4 + 2, none⟩ = some (.int .i64 xf) ∧ w'.cell? ⟨g, off + k * 4 + 3, none⟩ = some (.bool xp) ∧ w'.cell? ⟨g, off + (k - 1) * 4, none⟩ = some (.int .i64 y)) (by kernel_rfl) (⟨(HX.out).c0, (HX.out).c1, (HX.out).c2, (HX.out).c3, HP1.out⟩) (fun hHeld => ?_)
            refine tk (i := 0) (v := ?_) rfl (Or.inl ⟨by rfl, ?_⟩) (by assumption) ?_
            rotate_left
            · (intro w hSw; (try dsimp only at hSw); go_simp; (try with_reducible rfl))
            try simp only [pa, pb, pc, Act.put, pe, pf, pg]
            refine tk (i := 1) (v := ?_) rfl (Or.inl ⟨by rfl, ?_⟩) (by assumption) ?_
            rotate_left
            · (intro w hSw; (try dsimp only at hSw); go_simp; (try with_reducible rfl))
            try simp only [pa, pb, pc, Act.put, pe, pf, pg]
            refine tk (i := 2) (v := ?_) rfl (Or.inl ⟨by rfl, ?_⟩) (by assumption) ?_
            rotate_left
            · (intro w hSw; (try dsimp only at hSw); go_simp; (try with_reducible rfl))
            try simp only [pa, pb, pc, Act.put, pe, pf, pg]
            refine tk (i := 3) (v := ?_) rfl (Or.inl ⟨by rfl, ?_⟩) (by assumption) ?_
            rotate_left
            · (intro w hSw; (try dsimp only at hSw); go_simp; (try with_reducible rfl))
            try simp only [pa, pb, pc, Act.put, pe, pf, pg]
            refine wpAnyH_ready (rs := [4]) (by kernel_rfl) (by simp) (AllReadyH.cons rfl (fun K hK => ?_) AllReadyH.nil)
            go_simp
            refine (HCALL.out _).mono ?_
            rintro e w2 ⟨rfl, b2⟩
            rw [hnd]
            replace b2 := below_two (Below.drew (Below.refl wr.heap.size wr)) b2
            have HX2 := Lib.hid (HX.out.below b2 HG.out)
            have HB2 := Lib.hid (below_two HB0.out b2)
            have HP2 := Lib.hid ((b2.cell (p := ⟨g, off + (k - 1) * 4, none⟩) HG.out).trans HP1.out)
            clear b2
            go_wp2_with fail
            refine hK.out _ _ ?_ (fun hHeld => ?_)
            · exact ⟨(HX2.out).c0, (HX2.out).c1, (HX2.out).c2, (HX2.out).c3, HP2.out⟩
            clear hK K
            try simp only [pa, pb, pc, Act.put, pe, pf, pg]
            refine tk (i := 5) (v := ?_) rfl (Or.inl ⟨by rfl, ?_⟩) (by assumption) ?_
            rotate_left
            · (intro w hSw; (try dsimp only at hSw); go_simp; (try with_reducible rfl))
            try simp only [pa, pb, pc, Act.put, pe, pf, pg]
            refine tk (i := 6) (v := ?_) rfl (Or.inl ⟨by rfl, ?_⟩) (by assumption) ?_
            rotate_left
            · (intro w hSw; (try dsimp only at hSw); go_simp; (try with_reducible rfl))
            try simp only [pa, pb, pc, Act.put, pe, pf, pg]
            refine tk (i := 7) (v := ?_) rfl (Or.inl ⟨by rfl, ?_⟩) (by assumption) ?_
            rotate_left
            · (intro w hSw; (try dsimp only at hSw); go_simp; (try with_reducible rfl))
            try simp only [pa, pb, pc, Act.put, pe, pf, pg]
            refine tk (i := 8) (v := ?_) rfl (Or.inl ⟨by rfl, ?_⟩) (by assumption) ?_
            rotate_left
            · (intro w hSw; (try dsimp only at hSw); go_simp; (try with_reducible rfl))
            try simp only [pa, pb, pc, Act.put, pe, pf, pg]
            refine tk (i := 9) (v := ?_) rfl (Or.inl ⟨by rfl, ?_⟩) (by assumption) ?_
            rotate_left
            · (intro w hSw; (try dsimp only at hSw); go_simp; (try with_reducible rfl))
            try simp only [pa, pb, pc, Act.put, pe, pf, pg]
            refine tk (i := 10) (v := ?_) rfl (Or.inl ⟨by rfl, ?_⟩) (by assumption) ?_
            rotate_left
            · (intro w hSw; (try dsimp only at hSw); go_simp; (try with_reducible rfl))
            try simp only [pa, pb, pc, Act.put, pe, pf, pg]
            refine tk (i := 11) (v := ?_) rfl (Or.inl ⟨by rfl, ?_⟩) (by assumption) ?_
            rotate_left
            · (intro w hSw; (try dsimp only at hSw); go_simp; (try with_reducible rfl))
            try simp only [pa, pb, pc, Act.put, pe, pf, pg]
            refine tk (i := 12) (v := ?_) rfl (Or.inl ⟨by rfl, ?_⟩) (by assumption) ?_
            rotate_left
            · (intro w hSw; (try dsimp only at hSw); go_simp; (try with_reducible rfl))
            try simp only [pa, pb, pc, Act.put, pe, pf, pg]
            refine tk (i := 13) (v := ?_) rfl (Or.inl ⟨by rfl, ?_⟩) (by assumption) ?_
            rotate_left
            · (intro w hSw; (try dsimp only at hSw); go_simp; (try with_reducible rfl))
            try simp only [pa, pb, pc, Act.put, pe, pf, pg]
            refine tk (i := 14) (v := ?_) rfl (Or.inl ⟨by rfl, ?_⟩) (by assumption) ?_
            rotate_left
            · (intro w hSw; (try dsimp only at hSw); go_simp; (try with_reducible rfl))
            try simp only [pa, pb, pc, Act.put, pe, pf, pg]
            refine tk (i := 15) (v := ?_) rfl (Or.inl ⟨by rfl, ?_⟩) (by assumption) ?_
            rotate_left
            · (intro w hSw; (try dsimp only at hSw); go_simp; (try with_reducible rfl))
            try simp only [pa, pb, pc, Act.put, pe, pf, pg]
            refine tk (i := 16) (v := ?_) rfl (Or.inl ⟨by rfl, ?_⟩) (by assumption) ?_
            rotate_left
            · (intro w hSw; (try dsimp only at hSw); go_simp; (try with_reducible rfl))
            try simp only [pa, pb, pc, Act.put, pe, pf, pg]
            refine tk (i := 17) (v := ?_) rfl (Or.inl ⟨by rfl, ?_⟩) (by assumption) ?_
            rotate_left
            · (intro w hSw; (try dsimp only at hSw); go_simp; (try with_reducible rfl))
            try simp only [pa, pb, pc, Act.put, pe, pf, pg]
            refine tk (i := 18) (v := ?_) rfl (Or.inl ⟨by rfl, ?_⟩) (by assumption) ?_
            rotate_left
            · (intro w hSw; (try dsimp only at hSw); go_simp; (try with_reducible rfl))
            try simp only [pa, pb, pc, Act.put, pe, pf, pg]
            refine tk (i := 19) (v := ?_) rfl (Or.inl ⟨by rfl, ?_⟩) (by assumption) ?_
            rotate_left
            · (intro w hSw; (try dsimp only at hSw); go_simp; (try with_reducible rfl))
            try simp only [pa, pb, pc, Act.put, pe, pf, pg]
            refine tk (i := 20) (v := ?_) rfl (Or.inl ⟨by rfl, ?_⟩) (by assumption) ?_
            rotate_left
            · (intro w hSw; (try dsimp only at hSw); go_simp; (try with_reducible rfl))
            try simp only [pa, pb, pc, Act.put, pe, pf, pg]
            refine tk (i := 21) (v := ?_) rfl (Or.inl ⟨by rfl, ?_⟩) (by assumption) ?_
            rotate_left
            · (intro w hSw; (try dsimp only at hSw); go_simp; (try with_reducible rfl))
            try simp only [pa, pb, pc, Act.put, pe, pf, pg]
            refine tk (i := 22) (v := ?_) rfl (Or.inl ⟨by rfl, ?_⟩) (by assumption) ?_
            rotate_left
            · (intro w hSw; (try dsimp only at hSw); go_simp; (try with_reducible rfl))
            try simp only [pa, pb, pc, Act.put, pe, pf, pg]
            refine tk (i := 23) (v := ?_) rfl (Or.inl ⟨by rfl, ?_⟩) (by assumption) ?_
            rotate_left
            · (intro w hSw; (try dsimp only at hSw); go_simp; (try with_reducible rfl))
            try simp only [pa, pb, pc, Act.put, pe, pf, pg]
            refine wpAnyH_done (by kernel_rfl) ?_ _
            go_wp2_with fail
            go_ret
            rw [HF.out]
            exact ⟨rfl, HB2.out⟩
          · have hled : decide (xi ≤ y) = false := decide_eq_false hle
            have HLE := Lib.hid hle; clear hle
            refine wp_region_held_drew (S := fun w' => w'.cell? ⟨g, off + k * 4, none⟩ = some (.int .i64 xi) ∧ w'.cell? ⟨g, off + k * 4 + 1, none⟩ = some (.string xn) ∧ w'.cell? ⟨g, off + k * 4 + 2, none⟩ = some (.int .i64 xf) ∧ w'.cell? ⟨g, off + k * 4 + 3, none⟩ = some (.bool xp) ∧ w'.cell? ⟨g, off + (k - 1) * 4, none⟩ = some (.int .i64 y)) (by kernel_rfl) (⟨(HX.out).c0, (HX.out).c1, (HX.out).c2, (HX.out).c3, HP1.out⟩) (fun hHeld => ?_)
            refine tk (i := 0) (v := ?_) rfl (Or.inl ⟨by rfl, ?_⟩) (by assumption) ?_
            rotate_left
            · (intro w hSw; (try dsimp only at hSw); go_simp; (try with_reducible rfl))
            try simp only [pa, pb, pc, Act.put, pe, pf, pg]
            refine tk (i := 1) (v := ?_) rfl (Or.inl ⟨by rfl, ?_⟩) (by assumption) ?_
            rotate_left
            · (intro w hSw; (try dsimp only at hSw); go_simp; (try with_reducible rfl))
            try simp only [pa, pb, pc, Act.put, pe, pf, pg]
            refine tk (i := 2) (v := ?_) rfl (Or.inl ⟨by rfl, ?_⟩) (by assumption) ?_
            rotate_left
            · (intro w hSw; (try dsimp only at hSw); go_simp; (try with_reducible rfl))
            try simp only [pa, pb, pc, Act.put, pe, pf, pg]
            refine tk (i := 3) (v := ?_) rfl (Or.inl ⟨by rfl, ?_⟩) (by assumption) ?_
            rotate_left
            · (intro w hSw; (try dsimp only at hSw); go_simp; (try with_reducible rfl))
            try simp only [pa, pb, pc, Act.put, pe, pf, pg]
            refine wpAnyH_ready (rs := [4]) (by kernel_rfl) (by simp) (AllReadyH.cons rfl (fun K hK => ?_) AllReadyH.nil)
            go_simp
            refine (HCALL.out _).mono ?_
            rintro e w2 ⟨rfl, b2⟩
            rw [hnd]
            replace b2 := below_two (Below.drew (Below.refl wr.heap.size wr)) b2
            have HX2 := Lib.hid (HX.out.below b2 HG.out)
            have HB2 := Lib.hid (below_two HB0.out b2)
            have HR2 := Lib.hid (HRb.out.below b2)
            have HP2 := Lib.hid ((b2.cell (p := ⟨g, off + (k - 1) * 4, none⟩) HG.out).trans HP1.out)
            clear b2
            go_wp2_with fail
            refine hK.out _ _ ?_ (fun hHeld => ?_)
            · exact ⟨(HX2.out).c0, (HX2.out).c1, (HX2.out).c2, (HX2.out).c3, HP2.out⟩
            clear hK K
            try simp only [pa, pb, pc, Act.put, pe, pf, pg]
            refine tk (i := 5) (v := ?_) rfl (Or.inl ⟨by rfl, ?_⟩) (by assumption) ?_
            rotate_left
            · (intro w hSw; (try dsimp only at hSw); go_simp; (try with_reducible rfl))
            try simp only [pa, pb, pc, Act.put, pe, pf, pg]
            refine tk (i := 6) (v := ?_) rfl (Or.inl ⟨by rfl, ?_⟩) (by assumption) ?_
            rotate_left
            · (intro w hSw; (try dsimp only at hSw); go_simp; (try with_reducible rfl))
            try simp only [pa, pb, pc, Act.put, pe, pf, pg]
            refine tk (i := 7) (v := ?_) rfl (Or.inl ⟨by rfl, ?_⟩) (by assumption) ?_
            rotate_left
            · (intro w hSw; (try dsimp only at hSw); go_simp; (try with_reducible rfl))
            try simp only [pa, pb, pc, Act.put, pe, pf, pg]
            refine tk (i := 8) (v := ?_) rfl (Or.inl ⟨by rfl, ?_⟩) (by assumption) ?_
            rotate_left
            · (intro w hSw; (try dsimp only at hSw); go_simp; (try with_reducible rfl))
            try simp only [pa, pb, pc, Act.put, pe, pf, pg]
            refine tk (i := 9) (v := ?_) rfl (Or.inl ⟨by rfl, ?_⟩) (by assumption) ?_
            rotate_left
            · (intro w hSw; (try dsimp only at hSw); go_simp; (try with_reducible rfl))
            try simp only [pa, pb, pc, Act.put, pe, pf, pg]
            refine tk (i := 10) (v := ?_) rfl (Or.inl ⟨by rfl, ?_⟩) (by assumption) ?_
            rotate_left
            · (intro w hSw; (try dsimp only at hSw); go_simp; (try with_reducible rfl))
            try simp only [pa, pb, pc, Act.put, pe, pf, pg]
            refine tk (i := 11) (v := ?_) rfl (Or.inl ⟨by rfl, ?_⟩) (by assumption) ?_
            rotate_left
            · (intro w hSw; (try dsimp only at hSw); go_simp; (try with_reducible rfl))
            try simp only [pa, pb, pc, Act.put, pe, pf, pg]
            refine tk (i := 12) (v := ?_) rfl (Or.inl ⟨by rfl, ?_⟩) (by assumption) ?_
            rotate_left
            · (intro w hSw; (try dsimp only at hSw); go_simp; (try with_reducible rfl))
            try simp only [pa, pb, pc, Act.put, pe, pf, pg]
            refine tk (i := 13) (v := ?_) rfl (Or.inl ⟨by rfl, ?_⟩) (by assumption) ?_
            rotate_left
            · (intro w hSw; (try dsimp only at hSw); go_simp; (try with_reducible rfl))
            try simp only [pa, pb, pc, Act.put, pe, pf, pg]
            refine tk (i := 14) (v := ?_) rfl (Or.inl ⟨by rfl, ?_⟩) (by assumption) ?_
            rotate_left
            · (intro w hSw; (try dsimp only at hSw); go_simp; (try with_reducible rfl))
            try simp only [pa, pb, pc, Act.put, pe, pf, pg]
            refine tk (i := 15) (v := ?_) rfl (Or.inl ⟨by rfl, ?_⟩) (by assumption) ?_
            rotate_left
            · (intro w hSw; (try dsimp only at hSw); go_simp; (try with_reducible rfl))
            try simp only [pa, pb, pc, Act.put, pe, pf, pg]
            refine tk (i := 16) (v := ?_) rfl (Or.inl ⟨by rfl, ?_⟩) (by assumption) ?_
            rotate_left
            · (intro w hSw; (try dsimp only at hSw); go_simp; (try with_reducible rfl))
            try simp only [pa, pb, pc, Act.put, pe, pf, pg]
            refine tk (i := 17) (v := ?_) rfl (Or.inl ⟨by rfl, ?_⟩) (by assumption) ?_
            rotate_left
            · (intro w hSw; (try dsimp only at hSw); go_simp; (try with_reducible rfl))
            try simp only [pa, pb, pc, Act.put, pe, pf, pg]
            refine tk (i := 18) (v := ?_) rfl (Or.inl ⟨by rfl, ?_⟩) (by assumption) ?_
            rotate_left
            · (intro w hSw; (try dsimp only at hSw); go_simp; (try with_reducible rfl))
            try simp only [pa, pb, pc, Act.put, pe, pf, pg]
            refine tk (i := 19) (v := ?_) rfl (Or.inl ⟨by rfl, ?_⟩) (by assumption) ?_
            rotate_left
            · (intro w hSw; (try dsimp only at hSw); go_simp; (try with_reducible rfl))
            try simp only [pa, pb, pc, Act.put, pe, pf, pg]
            refine tk (i := 20) (v := ?_) rfl (Or.inl ⟨by rfl, ?_⟩) (by assumption) ?_
            rotate_left
            · (intro w hSw; (try dsimp only at hSw); go_simp; (try with_reducible rfl))
            try simp only [pa, pb, pc, Act.put, pe, pf, pg]
            refine tk (i := 21) (v := ?_) rfl (Or.inl ⟨by rfl, ?_⟩) (by assumption) ?_
            rotate_left
            · (intro w hSw; (try dsimp only at hSw); go_simp; (try with_reducible rfl))
            try simp only [pa, pb, pc, Act.put, pe, pf, pg]
            refine tk (i := 22) (v := ?_) rfl (Or.inl ⟨by rfl, ?_⟩) (by assumption) ?_
            rotate_left
            · (intro w hSw; (try dsimp only at hSw); go_simp; (try with_reducible rfl))
            try simp only [pa, pb, pc, Act.put, pe, pf, pg]
            refine tk (i := 23) (v := ?_) rfl (Or.inl ⟨by rfl, ?_⟩) (by assumption) ?_
            rotate_left
            · (intro w hSw; (try dsimp only at hSw); go_simp; (try with_reducible rfl))
            try simp only [pa, pb, pc, Act.put, pe, pf, pg]
            refine wpAnyH_done (by kernel_rfl) ?_ _
            go_wp2_with fail
            have HYN := Lib.hid (fun h => HYES.out (E4.out hnd HLE.out h)); have HNN := Lib.hid (fun h => HNO.out (E3.out h))
            clear E1 E2 E3 E4 HNO HYES
            go_loopw [4] (fun i wr2 => ∃ m : Nat, m ≤ k ∧ i = .int .i64 m ∧ (∃ q, wr2 = w2.drewN q) ∧ Hid (hasNm (t.take m) xn = false)) (fun i _ => k - (intOf i).toNat)
            case atStart => exact ⟨0, Nat.zero_le _, rfl, ⟨0, rfl⟩, rfl⟩
            case round =>
              obtain ⟨m, hm, rfl, ⟨q, rfl⟩, hnames⟩ := hrel
              by_cases hmk : m < k
              · obtain ⟨g', off', e, -, hz⟩ := HR2.out.at (i := m) (by omega)
                obtain ⟨g'', off'', e', -, hx⟩ := HR2.out.at (i := k) hlt
                cases e; cases e'
                rw [← HXE.out] at hx
                have hs1 := hasNm_succ (t := t) (s := xn) (k := m) (by rw [HL.out]; omega) hnames.out
                have hs2 := hasNm_yes (t := t.take k) (s := xn) (k := m) (by rw [List.length_take, HL.out]; omega)
                rw [ndOf_take hmk] at hs2
                obtain ⟨z, hze⟩ : ∃ z, z = ndOf t m := ⟨_, rfl⟩
                rw [← hze] at hz hs1 hs2
                have HS1 := Lib.hid hs1; have HS2 := Lib.hid hs2; clear hs1 hs2 hze
                obtain ⟨-, hz1, -, -⟩ := hz
                obtain ⟨-, hx1, -, -⟩ := hx
                have hbq := Lib.bytes_beq_iff z.name xn
                have hd : (z.name.toList == xn.toList) = decide (z.name = xn) := by rw [Bool.eq_iff_iff, hbq, decide_eq_true_eq]
                rcases hc : decide (z.name = xn) with _ | _
                · rw [hc] at hd
                  have HC := Lib.hid (HS1.out hc); clear hc hbq HS1 HS2
                  go_wp2_with fail
                  go_quiet (fail)
                  go_wp2_with fail
                  go_roundw
                  case rel => exact ⟨m + 1, by omega, by go_num, ⟨_, rfl⟩, HC.out⟩
                  case measure => simp [intOf]; omega
                · rw [hc] at hd
                  have HF := Lib.hid (HNN.out (HS2.out hc)); clear hc hbq HS1 HS2
                  go_wp2_with fail
                  go_quiet (fail)
                  go_wp2_with fail
                  go_ret
                  rw [HF.out]
                  exact ⟨rfl, below_drewN' (below_drewN' HB2.out _) _⟩
              · have hmk : m = k := by omega
                subst hmk
                have HOK := Lib.hid (HYN.out hnames.out)
                go_wp2_with fail
                go_roundw
                case rel => exact ⟨m + 1, by omega, by go_num, below_drewN' HB2.out _, HOK.out⟩
                case measure => simp [intOf]; omega
    · have hkn : k = n := by omega
      subst hkn
      have HB := Lib.hid hb; clear hb
      have HF := Lib.hid (table_ok (t := t) (by rw [HL.out]; exact hin) (by rw [HL.out]; exact hall.out))
      go_wp2_with fail
      go_ret
      rw [HF.out]
      exact ⟨rfl, HB.out⟩
end

section
open Go.RowKit
theorem av_no {t : List Nd} (h : isTable t = false) : activeVector t = (0, 1) := by unfold activeVector; rw [if_neg (by rw [h]; simp)]
theorem av_yes {t : List Nd} (h : isTable t = true) : activeVector t = (((actTo t t.length : Nat) : Int), 0) := by unfold activeVector; rw [if_pos h]
theorem act_pas {t : List Nd} {k : Nat} (h : (ndOf t k).pas = true) : actTo t (k + 1) = actTo t k := by rw [actTo, if_pos h]
theorem act_act {t : List Nd} {k : Nat} (h : (ndOf t k).pas = false) : actTo t (k + 1) = setN (actTo t k) (ndOf t k).id.toNat true := by rw [actTo, if_neg (by rw [h]; simp)]
theorem activeVector_any (ao : Option Addr) (n cap : Nat) (t : List Nd) (w : World) (hr : RdN w ao n t) (hn : n ≤ cap) (hcap : cap ≤ 9223372036854775807) (hs : smallN t) :
    Calls Tryz.prog 203 #[.slice ao n cap] w fun e w' => e = .returned (.tuple #[.int .i64 (activeVector t).1, .int .i64 (activeVector t).2]) ∧ Below w.heap.size w w' := by
  have hcall := Lib.hid (isTable_any ao n cap t w hr hn hcap hs)
  rcases ht : isTable t with _ | _
  · rw [av_no ht]
    clear hr hs
    go_enter Tryz.func203, Tryz.ntmps203
    go_wp2_with (go_at_call 139; refine hcall.out.mono ?_; rintro e w1 ⟨rfl, b1⟩; rw [ht])
    go_ret2
    exact ⟨rfl, b1⟩
  rw [av_yes ht]
  have HR := Lib.hid hr
  have HL := Lib.hid hr.len
  have HT := Lib.hid ht
  clear hr hs
  go_enter Tryz.func203, Tryz.ntmps203
  go_wp2_with (go_at_call 139; refine hcall.out.mono ?_; rintro e w1 ⟨rfl, b1⟩; rw [ht])
  have HR1 := Lib.hid (HR.out.below b1)
  have HB := Lib.hid b1; clear b1 HR hcall
  go_loopw [4, 12] (fun a i wr => ∃ k : Nat, k ≤ n ∧ i = .int .i64 k ∧ a = .int .i64 (actTo t k : Nat) ∧ Below w1.heap.size w1 wr) (fun _ i _ => n - (intOf i).toNat)
  case atStart => exact ⟨0, Nat.zero_le _, rfl, rfl, Below.refl _ _⟩
  case round =>
    obtain ⟨k, hk, rfl, rfl, hb⟩ := hrel
    by_cases hlt : k < n
    · obtain ⟨g, off, rfl, hg, hx⟩ := HR1.out.at hlt
      replace hx := hx.below hb hg
      have hid := (isNd_iff.1 (table_nd HT.out (i := k) (by rw [HL.out]; exact hlt))).1
      have hal := actTo_lt HT.out k (by rw [HL.out]; exact hk)
      have e1 := act_pas (t := t) (k := k)
      have e2 := act_act (t := t) (k := k)
      obtain ⟨a2, ha2⟩ : ∃ a2, a2 = actTo t (k + 1) := ⟨_, rfl⟩
      rw [← ha2] at e1 e2
      obtain ⟨x, hxe⟩ : ∃ x, x = ndOf t k := ⟨_, rfl⟩
      rw [← hxe] at hx hid e1 e2
      obtain ⟨a, ha⟩ : ∃ a, a = actTo t k := ⟨_, rfl⟩
      rw [← ha] at hal e1 e2 ⊢
      have HA2 := Lib.hid ha2; have E1 := Lib.hid e1; have E2 := Lib.hid e2; clear ha2 hxe ha e1 e2
      have HB1 := Lib.hid hb; clear hb
      have bb := fun X => below_two HB1.out ((Below.refl wr.heap.size wr).alloc (Nat.le_refl _) X)
      have BB := Lib.hid bb; clear bb
      obtain ⟨xi, xn, xf, xp⟩ := x
      obtain ⟨h0, h1, h2, h3⟩ := hx
      dsimp only at *
      obtain ⟨q, rfl⟩ := Int.eq_ofNat_of_zero_le hid.1
      have hq : q < 32 := by omega
      clear hid
      rcases xp with _ | _
      · have HE := Lib.hid (E2.out rfl); clear E1 E2
        go_wp2_with (go_at_call 231; refine (with_any _ _ _ hal hq).mono ?_; rintro e w2 ⟨rfl, rfl⟩)
        go_roundw
        case rel => exact ⟨k + 1, by omega, by go_num, by rw [← HA2.out, HE.out, Int.toNat_natCast], BB.out _⟩
        case measure => simp [intOf]; omega
      · have HE := Lib.hid (E1.out rfl); clear E1 E2
        go_wp2_with fail
        go_roundw
        case rel => exact ⟨k + 1, by omega, by go_num, by rw [← HA2.out, HE.out], BB.out _⟩
        case measure => simp [intOf]; omega
    · have hkn : k = n := by omega
      subst hkn
      have HB1 := Lib.hid hb; clear hb
      go_wp2_with fail
      go_ret2
      rw [HL.out]
      exact ⟨rfl, below_two HB.out HB1.out⟩
theorem l10Active_any (ao : Option Addr) (n cap : Nat) (t : List Nd) (w : World) (hr : RdN w ao n t) (hn : n ≤ 9223372036854775807) (ht : isTable t = true) :
    Calls Tryz.prog 126 #[.slice ao n cap] w fun e w' => e = .returned (.int .i64 (actTo t t.length : Nat)) ∧ w = w' := by
  have HR := Lib.hid hr
  have HL := Lib.hid hr.len
  have HT := Lib.hid ht
  clear hr ht
  go_enter Tryz.func126, Tryz.ntmps126
  go_wp2_with fail
  go_loopw [3, 4] (fun a i wr => ∃ k : Nat, k ≤ n ∧ i = .int .i64 k ∧ a = .int .i64 (actTo t k : Nat) ∧ wr = w) (fun _ i _ => n - (intOf i).toNat)
  case atStart => exact ⟨0, Nat.zero_le _, rfl, rfl, rfl⟩
  case round =>
    obtain ⟨k, hk, rfl, rfl, rfl⟩ := hrel
    by_cases hlt : k < n
    · obtain ⟨g, off, rfl, hg, hx⟩ := HR.out.at hlt
      have hid := (isNd_iff.1 (table_nd HT.out (i := k) (by rw [HL.out]; exact hlt))).1
      have hal := actTo_lt HT.out k (by rw [HL.out]; exact hk)
      have e1 := act_pas (t := t) (k := k)
      have e2 := act_act (t := t) (k := k)
      obtain ⟨a2, ha2⟩ : ∃ a2, a2 = actTo t (k + 1) := ⟨_, rfl⟩
      rw [← ha2] at e1 e2
      obtain ⟨x, hxe⟩ : ∃ x, x = ndOf t k := ⟨_, rfl⟩
      rw [← hxe] at hx hid e1 e2
      obtain ⟨a, ha⟩ : ∃ a, a = actTo t k := ⟨_, rfl⟩
      rw [← ha] at hal e1 e2 ⊢
      have HA2 := Lib.hid ha2; have E1 := Lib.hid e1; have E2 := Lib.hid e2; clear ha2 hxe ha e1 e2
      obtain ⟨xi, xn, xf, xp⟩ := x
      obtain ⟨h0, h1, h2, h3⟩ := hx
      dsimp only at *
      obtain ⟨q, rfl⟩ := Int.eq_ofNat_of_zero_le hid.1
      have hq : q < 32 := by omega
      clear hid
      rcases xp with _ | _
      · have HE := Lib.hid (E2.out rfl); clear E1 E2
        go_wp2_with (go_at_call 166; refine (l05Set_any _ _ _ _ hal hq).mono ?_; rintro e w2 ⟨rfl, rfl⟩)
        go_roundw
        case rel => exact ⟨k + 1, by omega, by go_num, by rw [← HA2.out, HE.out, Int.toNat_natCast], trivial⟩
        case measure => simp [intOf]; omega
      · have HE := Lib.hid (E1.out rfl); clear E1 E2
        go_wp2_with fail
        go_roundw
        case rel => exact ⟨k + 1, by omega, by go_num, by rw [← HA2.out, HE.out], trivial⟩
        case measure => simp [intOf]; omega
    · have hkn : k = n := by omega
      subst hkn
      go_wp2_with fail
      go_ret
      rw [HL.out]
      exact ⟨rfl, rfl⟩
end

section
open Go.RowKit
def setNd (w : World) (b off : Nat) (x : Nd) : World := (((w.setCell ⟨b, off, none⟩ (.int .i64 x.id)).setCell ⟨b, off + 1, none⟩ (.string x.name)).setCell ⟨b, off + 2, none⟩ (.int .i64 x.drift)).setCell ⟨b, off + 3, none⟩ (.bool x.pas)
section
variable {T b : Nat} {w : World} {d : Int} {s : ByteArray} {f : Int} {p : Bool}
theorem NdAt.set0 (h : NdAt T w b ⟨d, s, f, p⟩) (z : Int) : NdAt T (w.setCell ⟨b, 0, none⟩ (.int .i64 z)) b ⟨z, s, f, p⟩ := by
  have := heap_setCell_same w b 0 _ _ (.int .i64 z) h
  simpa [NdAt] using this
theorem NdAt.set1 (h : NdAt T w b ⟨d, s, f, p⟩) (z : ByteArray) : NdAt T (w.setCell ⟨b, 1, none⟩ (.string z)) b ⟨d, z, f, p⟩ := by
  have := heap_setCell_same w b 1 _ _ (.string z) h
  simpa [NdAt] using this
theorem NdAt.set2 (h : NdAt T w b ⟨d, s, f, p⟩) (z : Int) : NdAt T (w.setCell ⟨b, 2, none⟩ (.int .i64 z)) b ⟨d, s, z, p⟩ := by
  have := heap_setCell_same w b 2 _ _ (.int .i64 z) h
  simpa [NdAt] using this
theorem NdAt.set3 (h : NdAt T w b ⟨d, s, f, p⟩) (z : Bool) : NdAt T (w.setCell ⟨b, 3, none⟩ (.bool z)) b ⟨d, s, f, z⟩ := by
  have := heap_setCell_same w b 3 _ _ (.bool z) h
  simpa [NdAt] using this
end
theorem NdAt.put {T b : Nat} {w : World} {x : Nd} (h : NdAt T w b x) (y : Nd) : NdAt T (setNd w b 0 y) b y := by
  obtain ⟨d, s, f, p⟩ := x
  exact (((h.set0 y.id).set1 y.name).set2 y.drift).set3 y.pas
theorem NdAt.other {T b c off : Nat} {w : World} {x y : Nd} (h : NdAt T w b x) (hne : b ≠ c) : NdAt T (setNd w c off y) b x :=
  (heap_setCell_other _ _ _ _ hne).trans ((heap_setCell_other _ _ _ _ hne).trans ((heap_setCell_other _ _ _ _ hne).trans ((heap_setCell_other _ _ _ _ hne).trans h)))
end

section
open Go.RowKit
theorem ndOf_set {t : List Nd} {k : Nat} (h : k < t.length) (y : Nd) : ndOf (t.set k y) k = y := by simp [ndOf, List.getD, h]
theorem flatN_set : ∀ (t : List Nd) (k : Nat), k < t.length → ∀ (j : Nat) (u : Value) (y : Nd), ndCells y = (ndCells (ndOf t k)).set j u → j < 4 → (t.flatMap ndCells).set (k * 4 + j) u = (t.set k y).flatMap ndCells
  | [], _, h, _, _, _, _, _ => by simp at h
  | a :: r, 0, _, j, u, y, e, hj => by
    have e2 : ndOf (a :: r) 0 = a := by simp [ndOf]
    rw [e2] at e
    rw [List.set_cons_zero, List.flatMap_cons, List.flatMap_cons, e, Nat.zero_mul, Nat.zero_add]
    rw [List.set_append_left _ _ (by simp [ndCells]; omega)]
  | a :: r, k + 1, h, j, u, y, e, hj => by
    have e2 : ndOf (a :: r) (k + 1) = ndOf r k := by simp [ndOf]
    rw [e2] at e
    rw [List.set_cons_succ, List.flatMap_cons, List.flatMap_cons, List.set_append_right _ _ (by simp [ndCells]; omega)]
    rw [show (k + 1) * 4 + j - (ndCells a).length = k * 4 + j from by simp [ndCells]; omega, flatN_set r k (by simpa using h) j u y e hj]
section
variable {E : Nat} {w : World} {base g n cap : Nat} {t : List Nd}
theorem OwnN.field (ho : OwnN E w base (.slice (some ⟨g, 0, none⟩) n cap) t) (hl : t.length = n) {k : Nat} (hk : k < n) {j : Nat} (hj : j < 4) {u : Value} {y : Nd} (e : ndCells y = (ndCells (ndOf t k)).set j u) :
    w.frozen? ⟨g, k * 4 + j, none⟩ = false ∧ OwnN E (w.setCell ⟨g, k * 4 + j, none⟩ u) base (.slice (some ⟨g, 0, none⟩) n cap) (t.set k y) ∧ Below base w (w.setCell ⟨g, k * 4 + j, none⟩ u) := by
  have hb := (ho.block g rfl).1
  unfold OwnN at ho ⊢
  rw [hl] at ho
  refine ⟨World.ownsRow.frozenAt ho _, ?_, (Below.refl _ _).setCell (by exact hb) _⟩
  have h := (World.ownsRow.stored ho (k * 4 + j) u).1
  rw [flatN_set t k (by omega) j u y e hj] at h
  rw [List.length_set, hl]
  exact h
theorem OwnN.store (ho : OwnN E w base (.slice (some ⟨g, 0, none⟩) n cap) t) (hl : t.length = n) {k : Nat} (hk : k < n) (x : Nd) :
    NdIn w g (k * 4) (ndOf t k) ∧ (w.frozen? ⟨g, k * 4, none⟩ = false ∧ w.frozen? ⟨g, k * 4 + 1, none⟩ = false ∧ w.frozen? ⟨g, k * 4 + 2, none⟩ = false ∧ w.frozen? ⟨g, k * 4 + 3, none⟩ = false) ∧
      OwnN E (setNd w g (k * 4) x) base (.slice (some ⟨g, 0, none⟩) n cap) (t.set k x) ∧ Below base w (setNd w g (k * 4) x) := by
  have hin : NdIn w g (k * 4) (ndOf t k) := by
    obtain ⟨ao, cap', e, r, -⟩ := ho.form
    cases e
    obtain ⟨b, off, e, -, h⟩ := r.at (i := k) (by omega)
    cases e
    rwa [Nat.zero_add] at h
  have hkt : k < t.length := by omega
  generalize hz : ndOf t k = z at hin ⊢
  obtain ⟨f0, o0, b0⟩ := ho.field (j := 0) (u := .int .i64 x.id) (y := ⟨x.id, z.name, z.drift, z.pas⟩) hl hk (by omega) (by rw [hz]; rfl)
  obtain ⟨f1, -, -⟩ := ho.field (j := 1) (u := .string x.name) (y := ⟨z.id, x.name, z.drift, z.pas⟩) hl hk (by omega) (by rw [hz]; rfl)
  obtain ⟨f2, -, -⟩ := ho.field (j := 2) (u := .int .i64 x.drift) (y := ⟨z.id, z.name, x.drift, z.pas⟩) hl hk (by omega) (by rw [hz]; rfl)
  obtain ⟨f3, -, -⟩ := ho.field (j := 3) (u := .bool x.pas) (y := ⟨z.id, z.name, z.drift, x.pas⟩) hl hk (by omega) (by rw [hz]; rfl)
  obtain ⟨-, o1, b1⟩ := o0.field (j := 1) (u := .string x.name) (y := ⟨x.id, x.name, z.drift, z.pas⟩) (by rw [List.length_set]; exact hl) hk (by omega) (by rw [ndOf_set hkt]; rfl)
  rw [List.set_set] at o1
  obtain ⟨-, o2, b2⟩ := o1.field (j := 2) (u := .int .i64 x.drift) (y := ⟨x.id, x.name, x.drift, z.pas⟩) (by rw [List.length_set]; exact hl) hk (by omega) (by rw [ndOf_set hkt]; rfl)
  rw [List.set_set] at o2
  obtain ⟨-, o3, b3⟩ := o2.field (j := 3) (u := .bool x.pas) (y := x) (by rw [List.length_set]; exact hl) hk (by omega) (by rw [ndOf_set hkt]; rfl)
  rw [List.set_set] at o3
  exact ⟨hin, ⟨f0, f1, f2, f3⟩, o3, (((b0.trans b1).trans b2).trans b3)⟩
end
abbrev InfoNd (P : Program) (E : Nat) : Prop := (P.info? E).map (fun i => (i.zero, i.size, i.bytes)) = some (some (ndVal Nd.zero), 4, 40)
theorem info_parts_n {P : Program} {E : Nat} (h : InfoNd P E) : ∃ i, P.info? E = some i ∧ i.zero = some (ndVal Nd.zero) ∧ i.size = 4 ∧ i.bytes = 40 := by
  unfold InfoNd at h
  cases hi : P.info? E with
  | none => rw [hi] at h; cases h
  | some i =>
    rw [hi] at h
    simp only [Option.map_some, Option.some.injEq, Prod.mk.injEq] at h
    exact ⟨i, rfl, h.1, h.2.1, h.2.2⟩
section
variable {P : Program} {E T : Nat} (w : World) {ops : Array Oper} {rest : List Oper} {o : Oper} {a : Act} {Q : Exit → Act → World → Prop}
theorem append_nd (hgd : o.guard = none) (s x : Operand)
    (ho : o.op = .call { callee := .builtin .append, args := #[s, x], argTypes := #[T, T] })
    (base : Nat) (ht : P.underlying T = some (.slice E)) (hi : InfoNd P E)
    (v : Value) (t : List Nd) (hs : a.eval s = v) (hown : OwnN E w base v t) (b : Nat) (y : Nd) (c : Nat) (hx : a.eval x = .slice (some ⟨b, 0, none⟩) 1 c) (hc : NdIn w b 0 y)
    (hlen : t.length ≤ 4294967296) (hbase : base ≤ w.heap.size)
    (h : ∀ v' w', OwnN E w' base v' (t ++ [y]) → Below base w w' → wpList P ops Q rest (a.put o.dst v') w') : wpList P ops Q (o :: rest) a w := by
  obtain ⟨i0, hi, hz0, hz1, hz2⟩ := info_parts_n hi
  refine wpList_append_own w hgd s x T ho base E i0 (ndVal Nd.zero) 4 40 ht hi hz0 hz1 hz2 rfl (by decide) v t.length (t.flatMap ndCells) hs hown ⟨b, 0, none⟩ 1 c (ndCells y) hx rfl ?_ ?_ (by unfold maxLen; omega) (by omega) hbase ?_
  · intro j u hj
    match j, hj with
    | 0, hj => simp [ndCells] at hj; subst hj; simpa [Addr.add] using hc.c0
    | 1, hj => simp [ndCells] at hj; subst hj; simpa [Addr.add] using hc.c1
    | 2, hj => simp [ndCells] at hj; subst hj; simpa [Addr.add] using hc.c2
    | 3, hj => simp [ndCells] at hj; subst hj; simpa [Addr.add] using hc.c3
    | j + 4, hj => simp [ndCells] at hj
  · intro u hu; simp [ndCells] at hu; rcases hu with rfl | rfl | rfl | rfl <;> rfl
  · intro v' w' h1 h2 _
    refine h v' w' ?_ ((Below.refl _ _).grown h2 hbase fun k hk => (hown.block k hk).1)
    unfold OwnN
    rw [List.length_append, List.flatMap_append]
    simpa using h1
end
end

section
open Go.RowKit
theorem infoNd : (Tryz.prog.info? 130).map (fun i => (i.zero, i.size, i.bytes)) = some (some (ndVal Nd.zero), 4, 40) := by kernel_rfl
end
end Go.Proofs.YthihjhidjnadaaaGreat
