/-
  Chapter 5: IsMajority and AcknowledgeBy, of the program and of its model; laws.hasInt, spec.l01Has.
-/
import Derived.Test.YtkidhilipeoliaaM2
namespace Go.Proofs.Ytkidhilipeoliaa
open Go.RowKit

theorem maj_no1 {a r : Int} (h : ¬ (0 ≤ r)) : isMajority a r = false := by
  simp only [isMajority, inR, Bool.and_eq_false_iff, decide_eq_false_iff_not]; omega
theorem maj_no2 {a r : Int} (h : ¬ (a ≤ 256)) : isMajority a r = false := by
  simp only [isMajority, inR, Bool.and_eq_false_iff, decide_eq_false_iff_not]; omega
theorem maj_no3 {a r : Int} (h : ¬ (r < a)) : isMajority a r = false := by
  simp only [isMajority, inR, Bool.and_eq_false_iff, decide_eq_false_iff_not]; omega
theorem maj_yes {a r : Int} (h0 : 0 ≤ r) (h1 : a ≤ 256) (h2 : r < a) : isMajority a r = true := by
  simp only [isMajority, inR, Bool.and_eq_true, decide_eq_true_eq]; omega
/-- impl.IsMajority. -/
theorem isMajority_any (a r : Int) (w : World) : Calls Try.prog 37 #[.int .i64 a, .int .i64 r] w fun e w' => e = .returned (.bool (isMajority a r)) ∧ w = w' := by
  by_cases h0 : 0 ≤ r
  · by_cases h1 : a ≤ 256
    · by_cases h2 : r < a
      · rw [maj_yes h0 h1 h2]
        go_enter Try.func37, Try.ntmps37
        go_wp2
        go_ret
        exact ⟨ret_bool (by first | rfl | exact decide_eq_true h2), rfl⟩
      · rw [maj_no3 h2]
        go_enter Try.func37, Try.ntmps37
        go_wp2
        go_ret
        exact ⟨ret_bool (by first | rfl | exact decide_eq_false h2), rfl⟩
    · rw [maj_no2 h1]
      go_enter Try.func37, Try.ntmps37
      go_wp2
      go_ret
      exact ⟨rfl, rfl⟩
  · rw [maj_no1 h0]
    go_enter Try.func37, Try.ntmps37
    go_wp2
    go_ret
    exact ⟨rfl, rfl⟩
/-- spec.IsMajority. -/
theorem sIsMajority_any (a r : Int) (w : World) : Calls Try.prog 38 #[.int .i64 a, .int .i64 r] w fun e w' => e = .returned (.bool (isMajority a r)) ∧ w = w' := by
  have e1 : (decide (0 ≤ a) && decide (a ≤ 256)) = inR 256 a := rfl
  have e2 : (decide (0 ≤ r) && decide (r ≤ 256)) = inR 256 r := rfl
  obtain ⟨p, hp⟩ : ∃ b, inR 256 a = b := ⟨_, rfl⟩
  obtain ⟨q, hq⟩ : ∃ b, inR 256 r = b := ⟨_, rfl⟩
  have hm : isMajority a r = (p && (q && decide (r < a))) := by unfold isMajority; rw [hp, hq]
  rw [hm]
  have E1 := Lib.hid (e1.trans hp)
  have E2 := Lib.hid (e2.trans hq)
  clear e1 e2 hp hq hm
  cases p
  · go_enter Try.func38, Try.ntmps38
    go_wp2_with fail
    refine (in_any _ _ _ _).mono ?_
    rintro e w' ⟨rfl, rfl⟩
    rw [E1.out]
    go_wp2
    go_ret
    exact ⟨rfl, rfl⟩
  · cases q
    · go_enter Try.func38, Try.ntmps38
      go_wp2_with fail
      refine (in_any _ _ _ _).mono ?_
      rintro e w' ⟨rfl, rfl⟩
      rw [E1.out]
      go_wp2_with fail
      refine (in_any _ _ _ _).mono ?_
      rintro e w' ⟨rfl, rfl⟩
      rw [E2.out]
      go_wp2
      go_ret
      exact ⟨rfl, rfl⟩
    · go_enter Try.func38, Try.ntmps38
      go_wp2_with fail
      refine (in_any _ _ _ _).mono ?_
      rintro e w' ⟨rfl, rfl⟩
      rw [E1.out]
      go_wp2_with fail
      refine (in_any _ _ _ _).mono ?_
      rintro e w' ⟨rfl, rfl⟩
      rw [E2.out]
      go_wp2
      go_ret
      exact ⟨ret_bool (by simp), rfl⟩

theorem areVecs_three (a b c : Int) : areVecs [a, b, c] = allIn 4294967295 [a, b, c] := by simp [areVecs, within]
theorem ack_no1 {own k f s : Int} (h : allIn 4294967295 [own, f, s] = false) : acknowledgeBy own k f s = (0, 2) := by unfold acknowledgeBy; rw [if_pos (by rw [h]; rfl)]
theorem ack_no2 {own k f s : Int} (h : isNode k = false) : acknowledgeBy own k f s = (0, 2) := by unfold acknowledgeBy; rw [if_pos (by rw [h]; simp)]
theorem ack_rest {own k : Nat} {f s : Int} (h : allIn 4294967295 [(own : Int), f, s] = true) (h' : isNode (k : Int) = true) :
    acknowledgeBy own k f s = if own.testBit k = false then (0, 5) else if f = (own : Int) then (1, 0) else if f = (setN own k false : Nat) ∧ s = (setN own k false : Nat) then (0, 0) else if f = (setN own k false : Nat) ∧ s = (own : Int) then (1, 0) else (-1, 0) := by
  unfold acknowledgeBy
  rw [if_neg (by rw [h, h']; simp), Int.toNat_natCast, Int.toNat_natCast]
theorem allIn_three {a b c : Int} (h : allIn 4294967295 [a, b, c] = true) : isVec a = true := (by simpa [allIn] using h : inR 4294967295 a = true ∧ _).1
/-- impl.AcknowledgeBy. -/
theorem acknowledgeBy_any (own k f s : Int) (w : World) : Calls Try.prog 40 #[.int .i64 own, .int .i64 k, .int .i64 f, .int .i64 s] w fun e w' => e = .returned (.tuple #[.int .i64 (acknowledgeBy own k f s).1, .int .i64 (acknowledgeBy own k f s).2]) ∧ Below w.heap.size w w' := by
  have hb : Below w.heap.size w (w.alloc (.cells #[.int .i64 own, .int .i64 f, .int .i64 s] 2)) := (Below.refl _ _).alloc (Nat.le_refl _) _
  have HB := Lib.hid hb; clear hb
  cases hv : allIn 4294967295 [own, f, s] with
  | false =>
    rw [ack_no1 hv]
    have HV := Lib.hid hv; clear hv
    go_enter Try.func40, Try.ntmps40
    go_wp2_with fail
    refine (areVectors_any _ _ _ _ _ rdV3 (by omega)).mono ?_
    rintro e w' ⟨rfl, rfl⟩
    rw [areVecs_three, HV.out]
    go_wp2
    go_ret2
    exact ⟨rfl, HB.out⟩
  | true =>
    have HV := Lib.hid hv
    cases hn : isNode k with
    | false =>
      rw [ack_no2 hn]
      have HN := Lib.hid hn; clear hn hv
      go_enter Try.func40, Try.ntmps40
      go_wp2_with fail
      refine (areVectors_any _ _ _ _ _ rdV3 (by omega)).mono ?_
      rintro e w' ⟨rfl, rfl⟩
      rw [areVecs_three, HV.out]
      go_wp2_with fail
      refine (isNode_any _ _).mono ?_
      rintro e w' ⟨rfl, rfl⟩
      rw [HN.out]
      go_wp2
      go_ret2
      exact ⟨rfl, HB.out⟩
    | true =>
      obtain ⟨m, rfl, hm⟩ := isVec_nat (allIn_three hv)
      obtain ⟨k, rfl, hk⟩ := isNode_nat hn
      rw [ack_rest hv hn]
      have HN := Lib.hid hn; clear hn hv
      obtain ⟨bit, hbit⟩ : ∃ b, m.testBit k = b := ⟨_, rfl⟩
      rw [hbit]
      have HT := Lib.hid hbit; clear hbit
      obtain ⟨wo, hwo⟩ : ∃ x : Int, ((setN m k false : Nat) : Int) = x := ⟨_, rfl⟩
      rw [hwo]
      have HW := Lib.hid hwo; clear hwo
      cases bit
      · rw [if_pos rfl]
        go_enter Try.func40, Try.ntmps40
        go_wp2_with fail
        refine (areVectors_any _ _ _ _ _ rdV3 (by omega)).mono ?_
        rintro e w' ⟨rfl, rfl⟩
        rw [areVecs_three, HV.out]
        go_wp2_with fail
        refine (isNode_any _ _).mono ?_
        rintro e w' ⟨rfl, rfl⟩
        rw [HN.out]
        go_wp2_with fail
        refine (has_any m k _ hk).mono ?_
        rintro e w' ⟨rfl, rfl⟩
        rw [HT.out]
        go_wp2
        go_ret2
        exact ⟨rfl, HB.out⟩
      · rw [if_neg (by simp)]
        by_cases h1 : f = (m : Int)
        · rw [if_pos h1]
          have t1 : (f == (m : Int)) = true := by simp [h1]
          clear h1
          go_enter Try.func40, Try.ntmps40
          go_wp2_with fail
          refine (areVectors_any _ _ _ _ _ rdV3 (by omega)).mono ?_
          rintro e w' ⟨rfl, rfl⟩
          rw [areVecs_three, HV.out]
          go_wp2_with fail
          refine (isNode_any _ _).mono ?_
          rintro e w' ⟨rfl, rfl⟩
          rw [HN.out]
          go_wp2_with fail
          refine (has_any m k _ hk).mono ?_
          rintro e w' ⟨rfl, rfl⟩
          rw [HT.out]
          go_wp2_with fail
          refine (without_any m k _ hm hk).mono ?_
          rintro e w' ⟨rfl, rfl⟩
          rw [HW.out]
          go_wp2
          go_ret2
          exact ⟨rfl, HB.out⟩
        · rw [if_neg h1]
          have t1 : (f == (m : Int)) = false := by simp [h1]
          clear h1
          by_cases h2 : f = wo
          · have t2 : (f == wo) = true := by simp [h2]
            by_cases h3 : s = wo
            · rw [if_pos ⟨h2, h3⟩]
              have t3 : (s == wo) = true := by simp [h3]
              clear h2 h3
              go_enter Try.func40, Try.ntmps40
              go_wp2_with fail
              refine (areVectors_any _ _ _ _ _ rdV3 (by omega)).mono ?_
              rintro e w' ⟨rfl, rfl⟩
              rw [areVecs_three, HV.out]
              go_wp2_with fail
              refine (isNode_any _ _).mono ?_
              rintro e w' ⟨rfl, rfl⟩
              rw [HN.out]
              go_wp2_with fail
              refine (has_any m k _ hk).mono ?_
              rintro e w' ⟨rfl, rfl⟩
              rw [HT.out]
              go_wp2_with fail
              refine (without_any m k _ hm hk).mono ?_
              rintro e w' ⟨rfl, rfl⟩
              rw [HW.out]
              go_wp2
              go_ret2
              exact ⟨rfl, HB.out⟩
            · rw [if_neg (fun h => h3 h.2)]
              have t3 : (s == wo) = false := by simp [h3]
              by_cases h4 : s = (m : Int)
              · rw [if_pos ⟨h2, h4⟩]
                have t4 : (s == (m : Int)) = true := by simp [h4]
                clear h2 h3 h4
                go_enter Try.func40, Try.ntmps40
                go_wp2_with fail
                refine (areVectors_any _ _ _ _ _ rdV3 (by omega)).mono ?_
                rintro e w' ⟨rfl, rfl⟩
                rw [areVecs_three, HV.out]
                go_wp2_with fail
                refine (isNode_any _ _).mono ?_
                rintro e w' ⟨rfl, rfl⟩
                rw [HN.out]
                go_wp2_with fail
                refine (has_any m k _ hk).mono ?_
                rintro e w' ⟨rfl, rfl⟩
                rw [HT.out]
                go_wp2_with fail
                refine (without_any m k _ hm hk).mono ?_
                rintro e w' ⟨rfl, rfl⟩
                rw [HW.out]
                go_wp2
                go_ret2
                exact ⟨rfl, HB.out⟩
              · rw [if_neg (fun h => h4 h.2)]
                have t4 : (s == (m : Int)) = false := by simp [h4]
                clear h2 h3 h4
                go_enter Try.func40, Try.ntmps40
                go_wp2_with fail
                refine (areVectors_any _ _ _ _ _ rdV3 (by omega)).mono ?_
                rintro e w' ⟨rfl, rfl⟩
                rw [areVecs_three, HV.out]
                go_wp2_with fail
                refine (isNode_any _ _).mono ?_
                rintro e w' ⟨rfl, rfl⟩
                rw [HN.out]
                go_wp2_with fail
                refine (has_any m k _ hk).mono ?_
                rintro e w' ⟨rfl, rfl⟩
                rw [HT.out]
                go_wp2_with fail
                refine (without_any m k _ hm hk).mono ?_
                rintro e w' ⟨rfl, rfl⟩
                rw [HW.out]
                go_wp2
                go_ret2
                exact ⟨rfl, HB.out⟩
          · have t2 : (f == wo) = false := by simp [h2]
            rw [if_neg (fun h => h2 h.1), if_neg (fun h => h2 h.1)]
            clear h2
            go_enter Try.func40, Try.ntmps40
            go_wp2_with fail
            refine (areVectors_any _ _ _ _ _ rdV3 (by omega)).mono ?_
            rintro e w' ⟨rfl, rfl⟩
            rw [areVecs_three, HV.out]
            go_wp2_with fail
            refine (isNode_any _ _).mono ?_
            rintro e w' ⟨rfl, rfl⟩
            rw [HN.out]
            go_wp2_with fail
            refine (has_any m k _ hk).mono ?_
            rintro e w' ⟨rfl, rfl⟩
            rw [HT.out]
            go_wp2_with fail
            refine (without_any m k _ hm hk).mono ?_
            rintro e w' ⟨rfl, rfl⟩
            rw [HW.out]
            go_wp2
            go_ret2
            exact ⟨rfl, HB.out⟩
/-- spec.AcknowledgeBy. -/
theorem sAcknowledgeBy_any (own k f s : Int) (w : World) : Calls Try.prog 41 #[.int .i64 own, .int .i64 k, .int .i64 f, .int .i64 s] w fun e w' => e = .returned (.tuple #[.int .i64 (acknowledgeBy own k f s).1, .int .i64 (acknowledgeBy own k f s).2]) ∧ Below w.heap.size w w' := by
  have hb : Below w.heap.size w (w.alloc (.cells #[.int .i64 own, .int .i64 f, .int .i64 s] 2)) := (Below.refl _ _).alloc (Nat.le_refl _) _
  have HB := Lib.hid hb; clear hb
  cases hv : allIn 4294967295 [own, f, s] with
  | false =>
    rw [ack_no1 hv]
    have HV := Lib.hid hv; clear hv
    go_enter Try.func41, Try.ntmps41
    go_wp2_with fail
    refine (l05Vector_any _ _ _ _ _ rdV3 (by omega)).mono ?_
    rintro e w' ⟨rfl, rfl⟩
    rw [HV.out]
    go_wp2
    go_ret2
    exact ⟨rfl, HB.out⟩
  | true =>
    have HV := Lib.hid hv
    cases hn : isNode k with
    | false =>
      rw [ack_no2 hn]
      have HN := Lib.hid hn; clear hn hv
      go_enter Try.func41, Try.ntmps41
      go_wp2_with fail
      refine (l05Vector_any _ _ _ _ _ rdV3 (by omega)).mono ?_
      rintro e w' ⟨rfl, rfl⟩
      rw [HV.out]
      go_wp2_with fail
      refine (l05Node_any _ _).mono ?_
      rintro e w' ⟨rfl, rfl⟩
      rw [HN.out]
      go_wp2
      go_ret2
      exact ⟨rfl, HB.out⟩
    | true =>
      obtain ⟨m, rfl, hm⟩ := isVec_nat (allIn_three hv)
      obtain ⟨k, rfl, hk⟩ := isNode_nat hn
      rw [ack_rest hv hn]
      have HN := Lib.hid hn; clear hn hv
      obtain ⟨bit, hbit⟩ : ∃ b, m.testBit k = b := ⟨_, rfl⟩
      rw [hbit]
      have HT := Lib.hid hbit; clear hbit
      obtain ⟨wo, hwo⟩ : ∃ x : Int, ((setN m k false : Nat) : Int) = x := ⟨_, rfl⟩
      rw [hwo]
      have HW := Lib.hid hwo; clear hwo
      cases bit
      · rw [if_pos rfl]
        go_enter Try.func41, Try.ntmps41
        go_wp2_with fail
        refine (l05Vector_any _ _ _ _ _ rdV3 (by omega)).mono ?_
        rintro e w' ⟨rfl, rfl⟩
        rw [HV.out]
        go_wp2_with fail
        refine (l05Node_any _ _).mono ?_
        rintro e w' ⟨rfl, rfl⟩
        rw [HN.out]
        go_wp2_with fail
        refine (l05Has_any m k _ hk).mono ?_
        rintro e w' ⟨rfl, rfl⟩
        rw [HT.out]
        go_wp2
        go_ret2
        exact ⟨rfl, HB.out⟩
      · rw [if_neg (by simp)]
        by_cases h1 : f = (m : Int)
        · rw [if_pos h1]
          have t1 : (f == (m : Int)) = true := by simp [h1]
          clear h1
          go_enter Try.func41, Try.ntmps41
          go_wp2_with fail
          refine (l05Vector_any _ _ _ _ _ rdV3 (by omega)).mono ?_
          rintro e w' ⟨rfl, rfl⟩
          rw [HV.out]
          go_wp2_with fail
          refine (l05Node_any _ _).mono ?_
          rintro e w' ⟨rfl, rfl⟩
          rw [HN.out]
          go_wp2_with fail
          refine (l05Has_any m k _ hk).mono ?_
          rintro e w' ⟨rfl, rfl⟩
          rw [HT.out]
          go_wp2_with fail
          refine (l05Set_any m k false _ hm hk).mono ?_
          rintro e w' ⟨rfl, rfl⟩
          rw [HW.out]
          go_wp2
          go_ret2
          exact ⟨rfl, HB.out⟩
        · rw [if_neg h1]
          have t1 : (f == (m : Int)) = false := by simp [h1]
          clear h1
          by_cases h2 : f = wo
          · have t2 : (f == wo) = true := by simp [h2]
            by_cases h3 : s = wo
            · rw [if_pos ⟨h2, h3⟩]
              have t3 : (s == wo) = true := by simp [h3]
              clear h2 h3
              go_enter Try.func41, Try.ntmps41
              go_wp2_with fail
              refine (l05Vector_any _ _ _ _ _ rdV3 (by omega)).mono ?_
              rintro e w' ⟨rfl, rfl⟩
              rw [HV.out]
              go_wp2_with fail
              refine (l05Node_any _ _).mono ?_
              rintro e w' ⟨rfl, rfl⟩
              rw [HN.out]
              go_wp2_with fail
              refine (l05Has_any m k _ hk).mono ?_
              rintro e w' ⟨rfl, rfl⟩
              rw [HT.out]
              go_wp2_with fail
              refine (l05Set_any m k false _ hm hk).mono ?_
              rintro e w' ⟨rfl, rfl⟩
              rw [HW.out]
              go_wp2
              go_ret2
              exact ⟨rfl, HB.out⟩
            · rw [if_neg (fun h => h3 h.2)]
              have t3 : (s == wo) = false := by simp [h3]
              by_cases h4 : s = (m : Int)
              · rw [if_pos ⟨h2, h4⟩]
                have t4 : (s == (m : Int)) = true := by simp [h4]
                clear h2 h3 h4
                go_enter Try.func41, Try.ntmps41
                go_wp2_with fail
                refine (l05Vector_any _ _ _ _ _ rdV3 (by omega)).mono ?_
                rintro e w' ⟨rfl, rfl⟩
                rw [HV.out]
                go_wp2_with fail
                refine (l05Node_any _ _).mono ?_
                rintro e w' ⟨rfl, rfl⟩
                rw [HN.out]
                go_wp2_with fail
                refine (l05Has_any m k _ hk).mono ?_
                rintro e w' ⟨rfl, rfl⟩
                rw [HT.out]
                go_wp2_with fail
                refine (l05Set_any m k false _ hm hk).mono ?_
                rintro e w' ⟨rfl, rfl⟩
                rw [HW.out]
                go_wp2
                go_ret2
                exact ⟨rfl, HB.out⟩
              · rw [if_neg (fun h => h4 h.2)]
                have t4 : (s == (m : Int)) = false := by simp [h4]
                clear h2 h3 h4
                go_enter Try.func41, Try.ntmps41
                go_wp2_with fail
                refine (l05Vector_any _ _ _ _ _ rdV3 (by omega)).mono ?_
                rintro e w' ⟨rfl, rfl⟩
                rw [HV.out]
                go_wp2_with fail
                refine (l05Node_any _ _).mono ?_
                rintro e w' ⟨rfl, rfl⟩
                rw [HN.out]
                go_wp2_with fail
                refine (l05Has_any m k _ hk).mono ?_
                rintro e w' ⟨rfl, rfl⟩
                rw [HT.out]
                go_wp2_with fail
                refine (l05Set_any m k false _ hm hk).mono ?_
                rintro e w' ⟨rfl, rfl⟩
                rw [HW.out]
                go_wp2
                go_ret2
                exact ⟨rfl, HB.out⟩
          · have t2 : (f == wo) = false := by simp [h2]
            rw [if_neg (fun h => h2 h.1), if_neg (fun h => h2 h.1)]
            clear h2
            go_enter Try.func41, Try.ntmps41
            go_wp2_with fail
            refine (l05Vector_any _ _ _ _ _ rdV3 (by omega)).mono ?_
            rintro e w' ⟨rfl, rfl⟩
            rw [HV.out]
            go_wp2_with fail
            refine (l05Node_any _ _).mono ?_
            rintro e w' ⟨rfl, rfl⟩
            rw [HN.out]
            go_wp2_with fail
            refine (l05Has_any m k _ hk).mono ?_
            rintro e w' ⟨rfl, rfl⟩
            rw [HT.out]
            go_wp2_with fail
            refine (l05Set_any m k false _ hm hk).mono ?_
            rintro e w' ⟨rfl, rfl⟩
            rw [HW.out]
            go_wp2
            go_ret2
            exact ⟨rfl, HB.out⟩
/-- laws.hasInt. -/
theorem hasInt_any (ao : Option Addr) (n cap : Nat) (xs : List Int) (y : Int) (w : World) (hr : Rd w ao n xs) (hn : n ≤ 9223372036854775807) :
    Calls Try.prog 33 #[.slice ao n cap, .int .i64 y] w fun e w' => e = .returned (.bool (decide (y ∈ xs))) ∧ w = w' := by
  obtain ⟨hlen, hat⟩ := hr
  have HL := Lib.hid hlen; clear hlen
  have HA := Lib.hid hat; clear hat
  go_enter Try.func33, Try.ntmps33
  go_wp2
  go_loop [5] (fun i => ∃ k : Nat, k ≤ n ∧ i = .int .i64 k ∧ Hid (∀ j, j < k → xs.getD j 0 ≠ y)) (fun i => n - (intOf i).toNat)
  case atStart => exact ⟨0, Nat.zero_le _, rfl, fun j hj => absurd hj (by omega)⟩
  case round =>
    obtain ⟨k, hk, rfl, hall⟩ := hrel
    by_cases hlt : k < n
    · obtain ⟨b, off, rfl, hc⟩ := HA.out (by omega)
      have hck := hc k hlt
      clear hc HA
      have hkx : k < xs.length := by rw [HL.out]; exact hlt
      have hme := getD_mem' hkx
      obtain ⟨x, hx⟩ : ∃ x, x = xs.getD k 0 := ⟨_, rfl⟩
      rw [← hx] at hck hme
      have HX := Lib.hid hx; clear hx hkx
      have HM := Lib.hid hme; clear hme
      by_cases he : x = y
      · subst he
        go_wp2
        go_ret
        exact ⟨ret_bool (decide_eq_true HM.out).symm, rfl⟩
      · have t : (x == y) = false := by simp [he]
        have HE := Lib.hid he; clear he
        go_wp2
        go_round
        case rel => exact ⟨k + 1, by omega, by go_num, fun j hj => by
          by_cases e : j = k
          · subst e; rw [← HX.out]; exact HE.out
          · exact hall.out j (by omega)⟩
        case measure => simp [intOf]; omega
    · have hkn : k = n := by omega
      subst hkn
      have hno : y ∉ xs := fun h => by
        obtain ⟨j, hj, e⟩ := List.mem_iff_getElem.1 h
        exact hall.out j (by rw [← HL.out]; exact hj) (by rw [List.getD, List.getElem?_eq_getElem hj]; simpa using e)
      have HN := Lib.hid hno; clear hno
      go_wp2
      go_ret
      exact ⟨ret_bool (decide_eq_false HN.out).symm, rfl⟩
/-- spec.l01Has. -/
theorem l01Has_any (ao : Option Addr) (n cap : Nat) (xs : List Int) (y : Int) (w : World) (hr : Rd w ao n xs) (hn : n ≤ 9223372036854775807) :
    Calls Try.prog 61 #[.slice ao n cap, .int .i64 y] w fun e w' => e = .returned (.bool (decide (y ∈ xs))) ∧ w = w' := by
  obtain ⟨hlen, hat⟩ := hr
  have HL := Lib.hid hlen; clear hlen
  have HA := Lib.hid hat; clear hat
  go_enter Try.func61, Try.ntmps61
  go_wp2
  go_loop [5] (fun i => ∃ k : Nat, k ≤ n ∧ i = .int .i64 k ∧ Hid (∀ j, j < k → xs.getD j 0 ≠ y)) (fun i => n - (intOf i).toNat)
  case atStart => exact ⟨0, Nat.zero_le _, rfl, fun j hj => absurd hj (by omega)⟩
  case round =>
    obtain ⟨k, hk, rfl, hall⟩ := hrel
    by_cases hlt : k < n
    · obtain ⟨b, off, rfl, hc⟩ := HA.out (by omega)
      have hck := hc k hlt
      clear hc HA
      have hkx : k < xs.length := by rw [HL.out]; exact hlt
      have hme := getD_mem' hkx
      obtain ⟨x, hx⟩ : ∃ x, x = xs.getD k 0 := ⟨_, rfl⟩
      rw [← hx] at hck hme
      have HX := Lib.hid hx; clear hx hkx
      have HM := Lib.hid hme; clear hme
      by_cases he : x = y
      · subst he
        go_wp2
        go_ret
        exact ⟨ret_bool (decide_eq_true HM.out).symm, rfl⟩
      · have t : (x == y) = false := by simp [he]
        have HE := Lib.hid he; clear he
        go_wp2
        go_round
        case rel => exact ⟨k + 1, by omega, by go_num, fun j hj => by
          by_cases e : j = k
          · subst e; rw [← HX.out]; exact HE.out
          · exact hall.out j (by omega)⟩
        case measure => simp [intOf]; omega
    · have hkn : k = n := by omega
      subst hkn
      have hno : y ∉ xs := fun h => by
        obtain ⟨j, hj, e⟩ := List.mem_iff_getElem.1 h
        exact hall.out j (by rw [← HL.out]; exact hj) (by rw [List.getD, List.getElem?_eq_getElem hj]; simpa using e)
      have HN := Lib.hid hno; clear hno
      go_wp2
      go_ret
      exact ⟨ret_bool (decide_eq_false HN.out).symm, rfl⟩
end Go.Proofs.Ytkidhilipeoliaa
