/-
  Chapter 5: the small functions on nodes and vectors, of the program and of its model.
  Chapter 5: HasMember, SetMember, MembersOf, of the program and of its model.
  Chapter 5: the nodes of a vector, MembersOf and VectorOf, of the program and of its model.
  Chapter 5: IsMajority and AcknowledgeBy, of the program and of its model; laws.hasInt, spec.l01Has.
  Chapter 5: CliqueOf, of the program and of its model.
  Chapter 5: countsOf (an array by value) and AgreedMembers, of the program and of its model.
  Chapter 5: AgreedMembers, of the program and of its model.
-/
import Derived.Test.YtbdfnkhmnglpbaaOne
import Derived.Test.YtbdfnkhmnglpbaaBase
import Derived.Test.YtbdfnkhmnglpbaaVecs
import Derived.Deep.Draws
import Derived.Deep.Cut
namespace Go.Proofs.Ytbdfnkhmnglpbaa
section
open Go.RowKit

theorem isNode_lo {k : Int} (h : k < 0) : isNode k = false := inR_low h
theorem isNode_hi {k : Int} (h : 31 < k) : isNode k = false := inR_high h
theorem isNode_yes {k : Int} (h0 : 0 ≤ k) (h1 : k ≤ 31) : isNode k = true := inR_true h0 h1
theorem isNode_nat {k : Int} (h : isNode k = true) : ∃ n : Nat, k = n ∧ n < 32 := by
  simp only [isNode, inR, Bool.and_eq_true, decide_eq_true_eq] at h
  exact ⟨k.toNat, by omega, by omega⟩
theorem isVec_nat {m : Int} (h : isVec m = true) : ∃ n : Nat, m = n ∧ n < 4294967296 := by
  simp only [isVec, inR, Bool.and_eq_true, decide_eq_true_eq] at h
  exact ⟨m.toNat, by omega, by omega⟩

/-- impl.isNode. -/
theorem isNode_any (k : Int) (w : World) : Calls Try.prog 103 #[.int .i64 k] w fun e w' => e = .returned (.bool (isNode k)) ∧ w = w' := by
  by_cases h0 : k < 0
  · rw [isNode_lo h0]
    go_enter Try.func103, Try.ntmps103
    go_wp2
    go_ret
    exact ⟨rfl, rfl⟩
  · by_cases h1 : 31 < k
    · rw [isNode_hi h1]
      go_enter Try.func103, Try.ntmps103
      go_wp2
      go_ret
      exact ⟨ret_bool (decide_eq_false (by omega)), rfl⟩
    · rw [isNode_yes (by omega) (by omega)]
      go_enter Try.func103, Try.ntmps103
      go_wp2
      go_ret
      exact ⟨ret_bool (decide_eq_true (by omega)), rfl⟩
/-- spec.l01In, any case. -/
theorem in_any (x lo hi : Int) (w : World) : Calls Try.prog 107 #[.int .i64 x, .int .i64 lo, .int .i64 hi] w fun e w' => e = .returned (.bool (decide (lo ≤ x) && decide (x ≤ hi))) ∧ w = w' := by
  by_cases h : lo ≤ x ∧ x ≤ hi
  · have e : (decide (lo ≤ x) && decide (x ≤ hi)) = true := by simp [h.1, h.2]
    rw [e]
    exact l01In_yes x lo hi w h.1 h.2
  · have e : (decide (lo ≤ x) && decide (x ≤ hi)) = false := by
      rw [Bool.and_eq_false_iff, decide_eq_false_iff_not, decide_eq_false_iff_not]; omega
    rw [e]
    exact l01In_no x lo hi w (by omega)
/-- spec.l05Node. -/
theorem l05Node_any (k : Int) (w : World) : Calls Try.prog 104 #[.int .i64 k] w fun e w' => e = .returned (.bool (isNode k)) ∧ w = w' := by
  go_enter Try.func104, Try.ntmps104
  go_wp2_with fail
  refine (in_any _ _ _ _).mono ?_
  rintro e w' ⟨rfl, rfl⟩
  go_wp2
  go_ret
  exact ⟨rfl, rfl⟩
/-- A vector's bit, by the program. -/
theorem has_any (m k : Nat) (w : World) (hk : k < 32) : Calls Try.prog 191 #[.int .i64 m, .int .i64 k] w fun e w' => e = .returned (.bool (m.testBit k)) ∧ w = w' := by
  have hk0 : (0 : Int) ≤ (k : Int) := by omega
  have hk1 : (k : Int) < 64 := by omega
  go_enter Try.func191, Try.ntmps191
  go_wp2
  go_ret
  exact ⟨ret_bool (bit_and m k), rfl⟩
/-- spec.l05Has. -/
theorem l05Has_any (m k : Nat) (w : World) (hk : k < 32) : Calls Try.prog 159 #[.int .i64 m, .int .i64 k] w fun e w' => e = .returned (.bool (m.testBit k)) ∧ w = w' := by
  have hk0 : (0 : Int) ≤ (k : Int) := by omega
  have hk1 : (k : Int) < 64 := by omega
  go_enter Try.func159, Try.ntmps159
  go_wp2
  go_ret
  exact ⟨ret_bool (bit_and m k), rfl⟩
/-- spec.l05Vector. -/
theorem l05Vector_any (ao : Option Addr) (n cap : Nat) (xs : List Int) (w : World) (hr : Rd w ao n xs) (hn : n ≤ 9223372036854775807) :
    Calls Try.prog 158 #[.slice ao n cap] w fun e w' => e = .returned (.bool (allIn 4294967295 xs)) ∧ w = w' := by
  obtain ⟨hlen, hat⟩ := hr
  have HL := Lib.hid hlen; clear hlen
  have HA := Lib.hid hat; clear hat
  go_enter Try.func158, Try.ntmps158
  go_wp2
  go_loop [3] (fun i => ∃ k : Nat, k ≤ n ∧ i = .int .i64 k ∧ Hid (allIn 4294967295 (xs.take k) = true)) (fun i => n - (intOf i).toNat)
  case atStart => exact ⟨0, Nat.zero_le _, rfl, rfl⟩
  case round =>
    obtain ⟨k, hk, rfl, hall⟩ := hrel
    by_cases hlt : k < n
    · obtain ⟨b, off, rfl, hc⟩ := HA.out (by omega)
      have hck := hc k hlt
      clear hc HA
      have hkx : k < xs.length := by rw [HL.out]; exact hlt
      obtain ⟨x, hx⟩ : ∃ x, x = xs.getD k 0 := ⟨_, rfl⟩
      rw [← hx] at hck
      have HX := Lib.hid hx; clear hx
      have HK := Lib.hid hkx; clear hkx
      by_cases hin : 0 ≤ x ∧ x ≤ 4294967295
      · obtain ⟨hx0, hx1⟩ := hin
        go_wp2_with fail
        refine (l01In_yes _ _ _ _ hx0 hx1).mono ?_
        rintro e w' ⟨rfl, rfl⟩
        go_wp2
        go_round
        case rel => exact ⟨k + 1, by omega, by go_num, allIn_succ HK.out hall.out (by rw [← HX.out]; exact inR_true hx0 hx1)⟩
        case measure => simp [intOf]; omega
      · go_wp2_with fail
        refine (l01In_no _ _ _ _ (by omega)).mono ?_
        rintro e w' ⟨rfl, rfl⟩
        go_wp2
        go_ret
        refine ⟨ret_bool (allIn_no HK.out ?_).symm, rfl⟩
        rw [← HX.out]
        by_cases h0 : x < 0
        · exact inR_low h0
        · exact inR_high (by omega)
    · have hkn : k = n := by omega
      subst hkn
      go_wp2
      go_ret
      have hz := hall.out
      rw [List.take_of_length_le (by rw [HL.out]; exact Nat.le_refl _)] at hz
      exact ⟨ret_bool hz.symm, rfl⟩
end

section
open Go.RowKit

theorem rdV1 {w : World} {a : Int} {T : Nat} : Rd (w.alloc (.cells #[.int .i64 a] T)) (some ⟨w.heap.size, 0, none⟩) 1 [a] :=
  ⟨rfl, fun _ => ⟨_, _, rfl, fun i hi => by
    have : i = 0 := by omega
    subst this
    rw [World.cell?_alloc_at _ _ _ _ rfl]; rfl⟩⟩
theorem rdV3 {w : World} {a b c : Int} {T : Nat} : Rd (w.alloc (.cells #[.int .i64 a, .int .i64 b, .int .i64 c] T)) (some ⟨w.heap.size, 0, none⟩) 3 [a, b, c] :=
  ⟨rfl, fun _ => ⟨_, _, rfl, fun i hi => by
    rw [Nat.zero_add, World.cell?_alloc_at _ _ _ _ rfl]
    match i, hi with
    | 0, _ => rfl
    | 1, _ => rfl
    | 2, _ => rfl⟩⟩
theorem areVecs_one (m : Int) : areVecs [m] = isVec m := by simp [areVecs, within, allIn, isVec]
theorem allIn_one (m : Int) : allIn 4294967295 [m] = isVec m := by simp [allIn, isVec]
theorem hm_no1 {m k : Int} (h : isVec m = false) : hasMember m k = false := by simp [hasMember, h]
theorem hm_no2 {m k : Int} (h : isNode k = false) : hasMember m k = false := by simp [hasMember, h]
theorem hm_yes {m k : Nat} (h : isVec m = true) (h' : isNode k = true) : hasMember m k = m.testBit k := by simp [hasMember, h, h']
theorem sm_no1 {m k : Int} {b : Bool} (h : isVec m = false) : setMember m k b = (0, 2) := by simp [setMember, h]
theorem sm_no2 {m k : Int} {b : Bool} (h : isNode k = false) : setMember m k b = (0, 2) := by simp [setMember, h]
theorem sm_yes {m k : Nat} {b : Bool} (h : isVec m = true) (h' : isNode k = true) : setMember m k b = ((setN m k b : Int), 0) := by simp [setMember, h, h']
theorem mo_no {m : Int} (h : isVec m = false) : membersOf m = ([], 2) := by simp [membersOf, h]
theorem mo_yes {m : Nat} (h : isVec m = true) : membersOf m = (nodesTo m 32, 0) := by simp [membersOf, h]

end

section
open Go.RowKit

/-- The nodes of a vector, by the program. -/
theorem nodes_any (m : Nat) (w : World) : Calls Try.prog 190 #[.int .i64 m] w (Makes 2 w (nodesTo m 32)) := by
  go_enter Try.func190, Try.ntmps190
  go_wp2
  go_loopw [3, 5] (fun v i wr => ∃ k : Nat, k ≤ 32 ∧ i = .int .i64 k ∧ Own 2 wr w.heap.size v (nodesTo m k) ∧ Below w.heap.size w wr) (fun _ i _ => 32 - (intOf i).toNat)
  case atStart => exact ⟨0, by omega, rfl, Own.nil_, Below.refl _ _⟩
  case round =>
    obtain ⟨k, hk, rfl, hown, hbel⟩ := hrel
    have HB := Lib.hid hbel
    have hsz := hbel.size
    clear hbel
    have HO := Lib.hid hown; clear hown
    by_cases hlt : k < 32
    · have hlt' : (k : Int) < 32 := by omega
      have hlen := nodesTo_len m k
      have hl2 : (nodesTo m k).length ≤ 4294967296 := by omega
      clear hlen
      have hs := nodesTo_succ m k
      obtain ⟨bit, hbit⟩ : ∃ b, m.testBit k = b := ⟨_, rfl⟩
      rw [hbit] at hs
      have HS := Lib.hid hs; clear hs
      have HT := Lib.hid hbit; clear hbit
      cases bit
      · go_wp2_with fail
        refine (has_any m k _ hlt).mono ?_
        rintro e w' ⟨rfl, rfl⟩
        rw [HT.out]
        go_wp2
        go_roundw
        case rel => exact ⟨k + 1, by omega, by go_num, by have h := HS.out; rw [if_neg (by simp)] at h; rw [h]; exact HO.out, HB.out⟩
        case measure => simp [intOf]; omega
      · go_wp2_with fail
        refine (has_any m k _ hlt).mono ?_
        rintro e w' ⟨rfl, rfl⟩
        rw [HT.out]
        go_wp2_with (at_builtin; refine append_one _ rfl (.tmp 11) (.tmp 13) rfl w.heap.size Try.underlying26 info64 _ _ rfl (HO.out.below ((Below.refl _ _).alloc (Nat.le_refl _) _)) _ _ _ rfl (new_cell rfl) hl2 (by simp; omega) ?_; intro v' w' hown hbel)
        have HO' := Lib.hid hown; clear hown
        have HB' := Lib.hid hbel; clear hbel
        go_wp2
        go_roundw
        case rel => exact ⟨k + 1, by omega, by go_num, by have h := HS.out; rw [if_pos trivial] at h; rw [h]; exact HO'.out, (HB.out.alloc (by omega) _).trans HB'.out⟩
        case measure => simp [intOf]; omega
    · have hkn : k = 32 := by omega
      subst hkn
      go_wp2
      go_ret
      exact ⟨_, rfl, HO.out, HB.out⟩

/-- spec.MembersOf. -/
theorem sMembersOf_any (m : Int) (w : World) : Calls Try.prog 149 #[.int .i64 m] w (Makes2 2 w (membersOf m).1 (membersOf m).2) := by
  have hb : Below w.heap.size w (w.alloc (.cells #[.int .i64 m] 2)) := (Below.refl _ _).alloc (Nat.le_refl _) _
  have HB := Lib.hid hb; clear hb
  cases hv : isVec m with
  | false =>
    rw [mo_no hv]
    have HV := Lib.hid hv; clear hv
    go_enter Try.func149, Try.ntmps149
    go_wp2_with fail
    refine (l05Vector_any _ _ _ _ _ rdV1 (by omega)).mono ?_
    rintro e w' ⟨rfl, rfl⟩
    rw [allIn_one, HV.out]
    go_wp2
    go_ret2
    exact ⟨_, rfl, Own.nil_, HB.out⟩
  | true =>
    have HV := Lib.hid hv
    obtain ⟨m, rfl, hm⟩ := isVec_nat hv
    rw [mo_yes hv]
    clear hv
    go_enter Try.func149, Try.ntmps149
    go_wp2_with fail
    refine (l05Vector_any _ _ _ _ _ rdV1 (by omega)).mono ?_
    rintro e w' ⟨rfl, rfl⟩
    rw [allIn_one, HV.out]
    have hsz1 := HB.out.size
    generalize w.alloc (.cells #[.int .i64 (m : Int)] 2) = w1 at HB hsz1 ⊢
    go_wp2
    go_loopw [4, 5] (fun v i wr => ∃ k : Nat, k ≤ 32 ∧ i = .int .i64 k ∧ Own 2 wr w.heap.size v (nodesTo m k) ∧ Below w.heap.size w wr) (fun _ i _ => 32 - (intOf i).toNat)
    case atStart => exact ⟨0, by omega, rfl, Own.of_alloc_nil hsz1, HB.out.alloc hsz1 _⟩
    case round =>
      obtain ⟨k, hk, rfl, hown, hbel⟩ := hrel
      clear HB
      have HB := Lib.hid hbel
      have hsz := hbel.size
      clear hbel
      have HO := Lib.hid hown; clear hown
      by_cases hlt : k < 32
      · have hlt' : (k : Int) < 32 := by omega
        have hlen := nodesTo_len m k
        have hl2 : (nodesTo m k).length ≤ 4294967296 := by omega
        clear hlen
        have hs := nodesTo_succ m k
        obtain ⟨bit, hbit⟩ : ∃ b, m.testBit k = b := ⟨_, rfl⟩
        rw [hbit] at hs
        have HS := Lib.hid hs; clear hs
        have HT := Lib.hid hbit; clear hbit
        cases bit
        · go_wp2_with fail
          refine (l05Has_any m k _ hlt).mono ?_
          rintro e w' ⟨rfl, rfl⟩
          rw [HT.out]
          go_wp2
          go_roundw
          case rel => exact ⟨k + 1, by omega, by go_num, by have h := HS.out; rw [if_neg (by simp)] at h; rw [h]; exact HO.out, HB.out⟩
          case measure => simp [intOf]; omega
        · go_wp2_with fail
          refine (l05Has_any m k _ hlt).mono ?_
          rintro e w' ⟨rfl, rfl⟩
          rw [HT.out]
          go_wp2_with (at_builtin; refine append_one _ rfl (.tmp 18) (.tmp 20) rfl w.heap.size Try.underlying26 info64 _ _ rfl (HO.out.below ((Below.refl _ _).alloc (Nat.le_refl _) _)) _ _ _ rfl (new_cell rfl) hl2 (by simp; omega) ?_; intro v' w' hown hbel)
          have HO' := Lib.hid hown; clear hown
          have HB' := Lib.hid hbel; clear hbel
          go_wp2
          go_roundw
          case rel => exact ⟨k + 1, by omega, by go_num, by have h := HS.out; rw [if_pos trivial] at h; rw [h]; exact HO'.out, (HB.out.alloc (by omega) _).trans HB'.out⟩
          case measure => simp [intOf]; omega
      · have hkn : k = 32 := by omega
        subst hkn
        go_wp2
        go_ret2
        exact ⟨_, rfl, HO.out, HB.out⟩

end

section
open Go.RowKit

theorem maj_no1 {a r : Int} (h : ¬ (0 ≤ r)) : isMajority a r = false := by
  simp only [isMajority, inR, Bool.and_eq_false_iff, decide_eq_false_iff_not]; omega
theorem maj_no2 {a r : Int} (h : ¬ (a ≤ 256)) : isMajority a r = false := by
  simp only [isMajority, inR, Bool.and_eq_false_iff, decide_eq_false_iff_not]; omega
theorem maj_no3 {a r : Int} (h : ¬ (r < a)) : isMajority a r = false := by
  simp only [isMajority, inR, Bool.and_eq_false_iff, decide_eq_false_iff_not]; omega
theorem maj_yes {a r : Int} (h0 : 0 ≤ r) (h1 : a ≤ 256) (h2 : r < a) : isMajority a r = true := by
  simp only [isMajority, inR, Bool.and_eq_true, decide_eq_true_eq]; omega
theorem areVecs_three (a b c : Int) : areVecs [a, b, c] = allIn 4294967295 [a, b, c] := by simp [areVecs, within]
theorem ack_no1 {own k f s : Int} (h : allIn 4294967295 [own, f, s] = false) : acknowledgeBy own k f s = (0, 2) := by unfold acknowledgeBy; rw [if_pos (by rw [h]; rfl)]
theorem ack_no2 {own k f s : Int} (h : isNode k = false) : acknowledgeBy own k f s = (0, 2) := by unfold acknowledgeBy; rw [if_pos (by rw [h]; simp)]
theorem ack_rest {own k : Nat} {f s : Int} (h : allIn 4294967295 [(own : Int), f, s] = true) (h' : isNode (k : Int) = true) :
    acknowledgeBy own k f s = if own.testBit k = false then (0, 5) else if f = (own : Int) then (1, 0) else if f = (setN own k false : Nat) ∧ s = (setN own k false : Nat) then (0, 0) else if f = (setN own k false : Nat) ∧ s = (own : Int) then (1, 0) else (-1, 0) := by
  unfold acknowledgeBy
  rw [if_neg (by rw [h, h']; simp), Int.toNat_natCast, Int.toNat_natCast]
theorem allIn_three {a b c : Int} (h : allIn 4294967295 [a, b, c] = true) : isVec a = true := (by simpa [allIn] using h : inR 4294967295 a = true ∧ _).1
end

section
open Go.RowKit

theorem cl_no1 {xs : List Int} {k : Int} (h : areVecs xs = false) : cliqueOf xs k = ([], 2) := by unfold cliqueOf; rw [if_neg (by rw [h]; simp)]
theorem cl_no2 {xs : List Int} {k : Int} (h : k < 0) : cliqueOf xs k = ([], 2) := by
  unfold cliqueOf; rw [if_neg (by rw [decide_eq_false (by omega : ¬ 0 ≤ k)]; simp)]
theorem cl_no3 {xs : List Int} {k : Int} (h : (xs.length : Int) ≤ k) : cliqueOf xs k = ([], 2) := by
  unfold cliqueOf; rw [if_neg (by rw [decide_eq_false (by omega : ¬ k < (xs.length : Int))]; simp)]
theorem cl_yes {xs : List Int} {k : Nat} (h : areVecs xs = true) (hk : k < xs.length) : cliqueOf xs k = (placesTo xs (xs.getD k 0) xs.length, 0) := by
  unfold cliqueOf; rw [if_pos (by rw [h, decide_eq_true (by omega : (0 : Int) ≤ (k : Int)), decide_eq_true (by omega : (k : Int) < (xs.length : Int))]; rfl), Int.toNat_natCast]
theorem areVecs_len {xs : List Int} (h : areVecs xs = true) : xs.length ≤ 32 := by
  simp only [areVecs, within, Bool.and_eq_true, decide_eq_true_eq] at h; omega
theorem areVecs_all {xs : List Int} (h : xs.length ≤ 32) : areVecs xs = allIn 4294967295 xs := by
  unfold areVecs within; rw [decide_eq_true (by omega)]; rfl
theorem areVecs_long {xs : List Int} (h : ¬ xs.length ≤ 32) : areVecs xs = false := within_long (by omega)

end

section
open Go.RowKit

end

section
open Go.RowKit

theorem ag_no1 {xs : List Int} (h : areVecs xs = false) : agreedMembers xs = (0, 2) := by unfold agreedMembers; rw [if_neg (by rw [h]; simp)]
theorem ag_no2 {xs : List Int} (h : xs.length = 0) : agreedMembers xs = (0, 2) := by unfold agreedMembers; rw [if_neg (by rw [decide_eq_false (by omega : ¬ 1 ≤ xs.length)]; simp)]
theorem ag_yes {xs : List Int} (h : areVecs xs = true) (h1 : 1 ≤ xs.length) : agreedMembers xs = ((agreedTo xs 32 : Int), 0) := by unfold agreedMembers; rw [if_pos (by rw [h, decide_eq_true h1]; rfl)]
theorem areVecs_bound {xs : List Int} (h : areVecs xs = true) : ∀ x ∈ xs, 0 ≤ x ∧ x ≤ 4294967295 := by
  simp only [areVecs, within, Bool.and_eq_true] at h
  exact allIn_iff.1 h.2

end
end Go.Proofs.Ytbdfnkhmnglpbaa
