/-
  Chapter 5: the small functions on nodes and vectors, of the program and of its model.
  Chapter 5: HasMember, SetMember, MembersOf, of the program and of its model.
  Chapter 5: the nodes of a vector, MembersOf and VectorOf, of the program and of its model.
  Chapter 5: IsMajority and AcknowledgeBy, of the program and of its model; laws.hasInt, spec.l01Has.
  Chapter 5: CliqueOf, of the program and of its model.
  Chapter 5: countsOf (an array by value) and AgreedMembers, of the program and of its model.
  Chapter 5: AgreedMembers, of the program and of its model.
-/
import Derived.Test.YtpedlofckbplmaaOne
import Derived.Test.YtpedlofckbplmaaBase
import Derived.Test.YtpedlofckbplmaaVecs
import Derived.Deep.Draws
import Derived.Deep.Cut
namespace Go.Proofs.Ytpedlofckbplmaa
section
open Go.RowKit

theorem isNode_lo {k : Int} (h : k < 0) : isNode k = false := inR_low h
theorem isNode_hi {k : Int} (h : 31 < k) : isNode k = false := inR_high h
theorem isNode_yes {k : Int} (h0 : 0 ≤ k) (h1 : k ≤ 31) : isNode k = true := inR_true h0 h1
theorem isNode_nat {k : Int} (h : isNode k = true) : ∃ n : Nat, k = n ∧ n < 32 := by
  simp only [isNode, inR, Bool.and_eq_true, decide_eq_true_eq] at h
  exact ⟨k.toNat, by omega, by omega⟩
theorem isVec_nat {m : Int} (h : isVec m = true) : ∃ n : Nat, m = n ∧ n < 4294967296 := by
  simp only [isVec, inR, Bool.and_eq_true, decide_eq_true_eq] at h
  exact ⟨m.toNat, by omega, by omega⟩

/-- impl.isNode. -/
theorem isNode_any (k : Int) (w : World) : Calls Try.prog 102 #[.int .i64 k] w fun e w' => e = .returned (.bool (isNode k)) ∧ w = w' := by
  by_cases h0 : k < 0
  · rw [isNode_lo h0]
    go_enter Try.func102, Try.ntmps102
    go_wp2
    go_ret
    exact ⟨rfl, rfl⟩
  · by_cases h1 : 31 < k
    · rw [isNode_hi h1]
      go_enter Try.func102, Try.ntmps102
      go_wp2
      go_ret
      exact ⟨ret_bool (decide_eq_false (by omega)), rfl⟩
    · rw [isNode_yes (by omega) (by omega)]
      go_enter Try.func102, Try.ntmps102
      go_wp2
      go_ret
      exact ⟨ret_bool (decide_eq_true (by omega)), rfl⟩
/-- spec.l01In, any case. -/
theorem in_any (x lo hi : Int) (w : World) : Calls Try.prog 63 #[.int .i64 x, .int .i64 lo, .int .i64 hi] w fun e w' => e = .returned (.bool (decide (lo ≤ x) && decide (x ≤ hi))) ∧ w = w' := by
  by_cases h : lo ≤ x ∧ x ≤ hi
  · have e : (decide (lo ≤ x) && decide (x ≤ hi)) = true := by simp [h.1, h.2]
    rw [e]
    exact l01In_yes x lo hi w h.1 h.2
  · have e : (decide (lo ≤ x) && decide (x ≤ hi)) = false := by
      rw [Bool.and_eq_false_iff, decide_eq_false_iff_not, decide_eq_false_iff_not]; omega
    rw [e]
    exact l01In_no x lo hi w (by omega)
/-- spec.l05Node. -/
theorem l05Node_any (k : Int) (w : World) : Calls Try.prog 106 #[.int .i64 k] w fun e w' => e = .returned (.bool (isNode k)) ∧ w = w' := by
  go_enter Try.func106, Try.ntmps106
  go_wp2_with fail
  refine (in_any _ _ _ _).mono ?_
  rintro e w' ⟨rfl, rfl⟩
  go_wp2
  go_ret
  exact ⟨rfl, rfl⟩
end

section
open Go.RowKit

theorem rdV1 {w : World} {a : Int} {T : Nat} : Rd (w.alloc (.cells #[.int .i64 a] T)) (some ⟨w.heap.size, 0, none⟩) 1 [a] :=
  ⟨rfl, fun _ => ⟨_, _, rfl, fun i hi => by
    have : i = 0 := by omega
    subst this
    rw [World.cell?_alloc_at _ _ _ _ rfl]; rfl⟩⟩
theorem rdV3 {w : World} {a b c : Int} {T : Nat} : Rd (w.alloc (.cells #[.int .i64 a, .int .i64 b, .int .i64 c] T)) (some ⟨w.heap.size, 0, none⟩) 3 [a, b, c] :=
  ⟨rfl, fun _ => ⟨_, _, rfl, fun i hi => by
    rw [Nat.zero_add, World.cell?_alloc_at _ _ _ _ rfl]
    match i, hi with
    | 0, _ => rfl
    | 1, _ => rfl
    | 2, _ => rfl⟩⟩
theorem areVecs_one (m : Int) : areVecs [m] = isVec m := by simp [areVecs, within, allIn, isVec]
theorem allIn_one (m : Int) : allIn 4294967295 [m] = isVec m := by simp [allIn, isVec]
theorem hm_no1 {m k : Int} (h : isVec m = false) : hasMember m k = false := by simp [hasMember, h]
theorem hm_no2 {m k : Int} (h : isNode k = false) : hasMember m k = false := by simp [hasMember, h]
theorem hm_yes {m k : Nat} (h : isVec m = true) (h' : isNode k = true) : hasMember m k = m.testBit k := by simp [hasMember, h, h']
theorem sm_no1 {m k : Int} {b : Bool} (h : isVec m = false) : setMember m k b = (0, 2) := by simp [setMember, h]
theorem sm_no2 {m k : Int} {b : Bool} (h : isNode k = false) : setMember m k b = (0, 2) := by simp [setMember, h]
theorem sm_yes {m k : Nat} {b : Bool} (h : isVec m = true) (h' : isNode k = true) : setMember m k b = ((setN m k b : Int), 0) := by simp [setMember, h, h']
theorem mo_no {m : Int} (h : isVec m = false) : membersOf m = ([], 2) := by simp [membersOf, h]
theorem mo_yes {m : Nat} (h : isVec m = true) : membersOf m = (nodesTo m 32, 0) := by simp [membersOf, h]

end

section
open Go.RowKit

end

section
open Go.RowKit

theorem maj_no1 {a r : Int} (h : ¬ (0 ≤ r)) : isMajority a r = false := by
  simp only [isMajority, inR, Bool.and_eq_false_iff, decide_eq_false_iff_not]; omega
theorem maj_no2 {a r : Int} (h : ¬ (a ≤ 256)) : isMajority a r = false := by
  simp only [isMajority, inR, Bool.and_eq_false_iff, decide_eq_false_iff_not]; omega
theorem maj_no3 {a r : Int} (h : ¬ (r < a)) : isMajority a r = false := by
  simp only [isMajority, inR, Bool.and_eq_false_iff, decide_eq_false_iff_not]; omega
theorem maj_yes {a r : Int} (h0 : 0 ≤ r) (h1 : a ≤ 256) (h2 : r < a) : isMajority a r = true := by
  simp only [isMajority, inR, Bool.and_eq_true, decide_eq_true_eq]; omega
theorem areVecs_three (a b c : Int) : areVecs [a, b, c] = allIn 4294967295 [a, b, c] := by simp [areVecs, within]
theorem ack_no1 {own k f s : Int} (h : allIn 4294967295 [own, f, s] = false) : acknowledgeBy own k f s = (0, 2) := by unfold acknowledgeBy; rw [if_pos (by rw [h]; rfl)]
theorem ack_no2 {own k f s : Int} (h : isNode k = false) : acknowledgeBy own k f s = (0, 2) := by unfold acknowledgeBy; rw [if_pos (by rw [h]; simp)]
theorem ack_rest {own k : Nat} {f s : Int} (h : allIn 4294967295 [(own : Int), f, s] = true) (h' : isNode (k : Int) = true) :
    acknowledgeBy own k f s = if own.testBit k = false then (0, 5) else if f = (own : Int) then (1, 0) else if f = (setN own k false : Nat) ∧ s = (setN own k false : Nat) then (0, 0) else if f = (setN own k false : Nat) ∧ s = (own : Int) then (1, 0) else (-1, 0) := by
  unfold acknowledgeBy
  rw [if_neg (by rw [h, h']; simp), Int.toNat_natCast, Int.toNat_natCast]
theorem allIn_three {a b c : Int} (h : allIn 4294967295 [a, b, c] = true) : isVec a = true := (by simpa [allIn] using h : inR 4294967295 a = true ∧ _).1
/-- spec.l01Has. -/
theorem l01Has_any (ao : Option Addr) (n cap : Nat) (xs : List Int) (y : Int) (w : World) (hr : Rd w ao n xs) (hn : n ≤ 9223372036854775807) :
    Calls Try.prog 78 #[.slice ao n cap, .int .i64 y] w fun e w' => e = .returned (.bool (decide (y ∈ xs))) ∧ w = w' := by
  obtain ⟨hlen, hat⟩ := hr
  have HL := Lib.hid hlen; clear hlen
  have HA := Lib.hid hat; clear hat
  go_enter Try.func78, Try.ntmps78
  go_wp2
  go_loop [5] (fun i => ∃ k : Nat, k ≤ n ∧ i = .int .i64 k ∧ Hid (∀ j, j < k → xs.getD j 0 ≠ y)) (fun i => n - (intOf i).toNat)
  case atStart => exact ⟨0, Nat.zero_le _, rfl, fun j hj => absurd hj (by omega)⟩
  case round =>
    obtain ⟨k, hk, rfl, hall⟩ := hrel
    by_cases hlt : k < n
    · obtain ⟨b, off, rfl, hc⟩ := HA.out (by omega)
      have hck := hc k hlt
      clear hc HA
      have hkx : k < xs.length := by rw [HL.out]; exact hlt
      have hme := getD_mem' hkx
      obtain ⟨x, hx⟩ : ∃ x, x = xs.getD k 0 := ⟨_, rfl⟩
      rw [← hx] at hck hme
      have HX := Lib.hid hx; clear hx hkx
      have HM := Lib.hid hme; clear hme
      by_cases he : x = y
      · subst he
        go_wp2
        go_ret
        exact ⟨ret_bool (decide_eq_true HM.out).symm, rfl⟩
      · have t : (x == y) = false := by simp [he]
        have HE := Lib.hid he; clear he
        go_wp2
        go_round
        case rel => exact ⟨k + 1, by omega, by go_num, fun j hj => by
          by_cases e : j = k
          · subst e; rw [← HX.out]; exact HE.out
          · exact hall.out j (by omega)⟩
        case measure => simp [intOf]; omega
    · have hkn : k = n := by omega
      subst hkn
      have hno : y ∉ xs := fun h => by
        obtain ⟨j, hj, e⟩ := List.mem_iff_getElem.1 h
        exact hall.out j (by rw [← HL.out]; exact hj) (by rw [List.getD, List.getElem?_eq_getElem hj]; simpa using e)
      have HN := Lib.hid hno; clear hno
      go_wp2
      go_ret
      exact ⟨ret_bool (decide_eq_false HN.out).symm, rfl⟩
end

section
open Go.RowKit

theorem cl_no1 {xs : List Int} {k : Int} (h : areVecs xs = false) : cliqueOf xs k = ([], 2) := by unfold cliqueOf; rw [if_neg (by rw [h]; simp)]
theorem cl_no2 {xs : List Int} {k : Int} (h : k < 0) : cliqueOf xs k = ([], 2) := by
  unfold cliqueOf; rw [if_neg (by rw [decide_eq_false (by omega : ¬ 0 ≤ k)]; simp)]
theorem cl_no3 {xs : List Int} {k : Int} (h : (xs.length : Int) ≤ k) : cliqueOf xs k = ([], 2) := by
  unfold cliqueOf; rw [if_neg (by rw [decide_eq_false (by omega : ¬ k < (xs.length : Int))]; simp)]
theorem cl_yes {xs : List Int} {k : Nat} (h : areVecs xs = true) (hk : k < xs.length) : cliqueOf xs k = (placesTo xs (xs.getD k 0) xs.length, 0) := by
  unfold cliqueOf; rw [if_pos (by rw [h, decide_eq_true (by omega : (0 : Int) ≤ (k : Int)), decide_eq_true (by omega : (k : Int) < (xs.length : Int))]; rfl), Int.toNat_natCast]
theorem areVecs_len {xs : List Int} (h : areVecs xs = true) : xs.length ≤ 32 := by
  simp only [areVecs, within, Bool.and_eq_true, decide_eq_true_eq] at h; omega
theorem areVecs_all {xs : List Int} (h : xs.length ≤ 32) : areVecs xs = allIn 4294967295 xs := by
  unfold areVecs within; rw [decide_eq_true (by omega)]; rfl
theorem areVecs_long {xs : List Int} (h : ¬ xs.length ≤ 32) : areVecs xs = false := within_long (by omega)

end

section
open Go.RowKit

end

section
open Go.RowKit

theorem ag_no1 {xs : List Int} (h : areVecs xs = false) : agreedMembers xs = (0, 2) := by unfold agreedMembers; rw [if_neg (by rw [h]; simp)]
theorem ag_no2 {xs : List Int} (h : xs.length = 0) : agreedMembers xs = (0, 2) := by unfold agreedMembers; rw [if_neg (by rw [decide_eq_false (by omega : ¬ 1 ≤ xs.length)]; simp)]
theorem ag_yes {xs : List Int} (h : areVecs xs = true) (h1 : 1 ≤ xs.length) : agreedMembers xs = ((agreedTo xs 32 : Int), 0) := by unfold agreedMembers; rw [if_pos (by rw [h, decide_eq_true h1]; rfl)]
theorem areVecs_bound {xs : List Int} (h : areVecs xs = true) : ∀ x ∈ xs, 0 ≤ x ∧ x ≤ 4294967295 := by
  simp only [areVecs, within, Bool.and_eq_true] at h
  exact allIn_iff.1 h.2

end
end Go.Proofs.Ytpedlofckbplmaa
