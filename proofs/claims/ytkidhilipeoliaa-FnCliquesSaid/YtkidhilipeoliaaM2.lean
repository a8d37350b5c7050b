/-
  Chapter 5: HasMember, SetMember, MembersOf, of the program and of its model.
-/
import Derived.Test.YtkidhilipeoliaaM1
namespace Go.Proofs.Ytkidhilipeoliaa
open Go.RowKit

theorem rdV1 {w : World} {a : Int} {T : Nat} : Rd (w.alloc (.cells #[.int .i64 a] T)) (some ⟨w.heap.size, 0, none⟩) 1 [a] :=
  ⟨rfl, fun _ => ⟨_, _, rfl, fun i hi => by
    have : i = 0 := by omega
    subst this
    rw [World.cell?_alloc_at _ _ _ _ rfl]; rfl⟩⟩
theorem rdV3 {w : World} {a b c : Int} {T : Nat} : Rd (w.alloc (.cells #[.int .i64 a, .int .i64 b, .int .i64 c] T)) (some ⟨w.heap.size, 0, none⟩) 3 [a, b, c] :=
  ⟨rfl, fun _ => ⟨_, _, rfl, fun i hi => by
    rw [Nat.zero_add, World.cell?_alloc_at _ _ _ _ rfl]
    match i, hi with
    | 0, _ => rfl
    | 1, _ => rfl
    | 2, _ => rfl⟩⟩
theorem areVecs_one (m : Int) : areVecs [m] = isVec m := by simp [areVecs, within, allIn, isVec]
theorem allIn_one (m : Int) : allIn 4294967295 [m] = isVec m := by simp [allIn, isVec]
theorem hm_no1 {m k : Int} (h : isVec m = false) : hasMember m k = false := by simp [hasMember, h]
theorem hm_no2 {m k : Int} (h : isNode k = false) : hasMember m k = false := by simp [hasMember, h]
theorem hm_yes {m k : Nat} (h : isVec m = true) (h' : isNode k = true) : hasMember m k = m.testBit k := by simp [hasMember, h, h']
theorem sm_no1 {m k : Int} {b : Bool} (h : isVec m = false) : setMember m k b = (0, 2) := by simp [setMember, h]
theorem sm_no2 {m k : Int} {b : Bool} (h : isNode k = false) : setMember m k b = (0, 2) := by simp [setMember, h]
theorem sm_yes {m k : Nat} {b : Bool} (h : isVec m = true) (h' : isNode k = true) : setMember m k b = ((setN m k b : Int), 0) := by simp [setMember, h, h']
theorem mo_no {m : Int} (h : isVec m = false) : membersOf m = ([], 2) := by simp [membersOf, h]
theorem mo_yes {m : Nat} (h : isVec m = true) : membersOf m = (nodesTo m 32, 0) := by simp [membersOf, h]

/-- impl.HasMember. -/
theorem hasMember_any (m k : Int) (w : World) : Calls Try.prog 23 #[.int .i64 m, .int .i64 k] w fun e w' => e = .returned (.bool (hasMember m k)) ∧ Below w.heap.size w w' := by
  have hb : Below w.heap.size w (w.alloc (.cells #[.int .i64 m] 2)) := (Below.refl _ _).alloc (Nat.le_refl _) _
  have HB := Lib.hid hb; clear hb
  cases hv : isVec m with
  | false =>
    rw [hm_no1 hv]
    have HV := Lib.hid hv; clear hv
    go_enter Try.func23, Try.ntmps23
    go_wp2_with fail
    refine (areVectors_any _ _ _ _ _ rdV1 (by omega)).mono ?_
    rintro e w' ⟨rfl, rfl⟩
    rw [areVecs_one, HV.out]
    go_wp2
    go_ret
    exact ⟨rfl, HB.out⟩
  | true =>
    have HV := Lib.hid hv
    cases hn : isNode k with
    | false =>
      rw [hm_no2 hn]
      have HN := Lib.hid hn; clear hn hv
      go_enter Try.func23, Try.ntmps23
      go_wp2_with fail
      refine (areVectors_any _ _ _ _ _ rdV1 (by omega)).mono ?_
      rintro e w' ⟨rfl, rfl⟩
      rw [areVecs_one, HV.out]
      go_wp2_with fail
      refine (isNode_any _ _).mono ?_
      rintro e w' ⟨rfl, rfl⟩
      rw [HN.out]
      go_wp2
      go_ret
      exact ⟨rfl, HB.out⟩
    | true =>
      obtain ⟨m, rfl, hm⟩ := isVec_nat hv
      obtain ⟨k, rfl, hk⟩ := isNode_nat hn
      rw [hm_yes hv hn]
      have HN := Lib.hid hn; clear hn hv
      go_enter Try.func23, Try.ntmps23
      go_wp2_with fail
      refine (areVectors_any _ _ _ _ _ rdV1 (by omega)).mono ?_
      rintro e w' ⟨rfl, rfl⟩
      rw [areVecs_one, HV.out]
      go_wp2_with fail
      refine (isNode_any _ _).mono ?_
      rintro e w' ⟨rfl, rfl⟩
      rw [HN.out]
      go_wp2_with fail
      refine (has_any m k _ hk).mono ?_
      rintro e w' ⟨rfl, rfl⟩
      go_wp2
      go_ret
      exact ⟨rfl, HB.out⟩
/-- spec.HasMember. -/
theorem sHasMember_any (m k : Int) (w : World) : Calls Try.prog 42 #[.int .i64 m, .int .i64 k] w fun e w' => e = .returned (.bool (hasMember m k)) ∧ Below w.heap.size w w' := by
  have hb : Below w.heap.size w (w.alloc (.cells #[.int .i64 m] 2)) := (Below.refl _ _).alloc (Nat.le_refl _) _
  have HB := Lib.hid hb; clear hb
  cases hv : isVec m with
  | false =>
    rw [hm_no1 hv]
    have HV := Lib.hid hv; clear hv
    go_enter Try.func42, Try.ntmps42
    go_wp2_with fail
    refine (l05Vector_any _ _ _ _ _ rdV1 (by omega)).mono ?_
    rintro e w' ⟨rfl, rfl⟩
    rw [allIn_one, HV.out]
    go_wp2
    go_ret
    exact ⟨rfl, HB.out⟩
  | true =>
    have HV := Lib.hid hv
    cases hn : isNode k with
    | false =>
      rw [hm_no2 hn]
      have HN := Lib.hid hn; clear hn hv
      go_enter Try.func42, Try.ntmps42
      go_wp2_with fail
      refine (l05Vector_any _ _ _ _ _ rdV1 (by omega)).mono ?_
      rintro e w' ⟨rfl, rfl⟩
      rw [allIn_one, HV.out]
      go_wp2_with fail
      refine (l05Node_any _ _).mono ?_
      rintro e w' ⟨rfl, rfl⟩
      rw [HN.out]
      go_wp2
      go_ret
      exact ⟨rfl, HB.out⟩
    | true =>
      obtain ⟨m, rfl, hm⟩ := isVec_nat hv
      obtain ⟨k, rfl, hk⟩ := isNode_nat hn
      rw [hm_yes hv hn]
      have HN := Lib.hid hn; clear hn hv
      go_enter Try.func42, Try.ntmps42
      go_wp2_with fail
      refine (l05Vector_any _ _ _ _ _ rdV1 (by omega)).mono ?_
      rintro e w' ⟨rfl, rfl⟩
      rw [allIn_one, HV.out]
      go_wp2_with fail
      refine (l05Node_any _ _).mono ?_
      rintro e w' ⟨rfl, rfl⟩
      rw [HN.out]
      go_wp2_with fail
      refine (l05Has_any m k _ hk).mono ?_
      rintro e w' ⟨rfl, rfl⟩
      go_wp2
      go_ret
      exact ⟨rfl, HB.out⟩
/-- impl.SetMember. -/
theorem setMember_any (m k : Int) (b : Bool) (w : World) : Calls Try.prog 20 #[.int .i64 m, .int .i64 k, .bool b] w fun e w' => e = .returned (.tuple #[.int .i64 (setMember m k b).1, .int .i64 (setMember m k b).2]) ∧ Below w.heap.size w w' := by
  have hb : Below w.heap.size w (w.alloc (.cells #[.int .i64 m] 2)) := (Below.refl _ _).alloc (Nat.le_refl _) _
  have HB := Lib.hid hb; clear hb
  cases hv : isVec m with
  | false =>
    rw [sm_no1 hv]
    have HV := Lib.hid hv; clear hv
    go_enter Try.func20, Try.ntmps20
    go_wp2_with fail
    refine (areVectors_any _ _ _ _ _ rdV1 (by omega)).mono ?_
    rintro e w' ⟨rfl, rfl⟩
    rw [areVecs_one, HV.out]
    go_wp2
    go_ret2
    exact ⟨rfl, HB.out⟩
  | true =>
    have HV := Lib.hid hv
    cases hn : isNode k with
    | false =>
      rw [sm_no2 hn]
      have HN := Lib.hid hn; clear hn hv
      go_enter Try.func20, Try.ntmps20
      go_wp2_with fail
      refine (areVectors_any _ _ _ _ _ rdV1 (by omega)).mono ?_
      rintro e w' ⟨rfl, rfl⟩
      rw [areVecs_one, HV.out]
      go_wp2_with fail
      refine (isNode_any _ _).mono ?_
      rintro e w' ⟨rfl, rfl⟩
      rw [HN.out]
      go_wp2
      go_ret2
      exact ⟨rfl, HB.out⟩
    | true =>
      obtain ⟨m, rfl, hm⟩ := isVec_nat hv
      obtain ⟨k, rfl, hk⟩ := isNode_nat hn
      rw [sm_yes hv hn]
      have HN := Lib.hid hn; clear hn hv
      cases b
      · go_enter Try.func20, Try.ntmps20
        go_wp2_with fail
        refine (areVectors_any _ _ _ _ _ rdV1 (by omega)).mono ?_
        rintro e w' ⟨rfl, rfl⟩
        rw [areVecs_one, HV.out]
        go_wp2_with fail
        refine (isNode_any _ _).mono ?_
        rintro e w' ⟨rfl, rfl⟩
        rw [HN.out]
        go_wp2_with fail
        refine (without_any m k _ hm hk).mono ?_
        rintro e w' ⟨rfl, rfl⟩
        go_wp2
        go_ret2
        exact ⟨rfl, HB.out⟩
      · go_enter Try.func20, Try.ntmps20
        go_wp2_with fail
        refine (areVectors_any _ _ _ _ _ rdV1 (by omega)).mono ?_
        rintro e w' ⟨rfl, rfl⟩
        rw [areVecs_one, HV.out]
        go_wp2_with fail
        refine (isNode_any _ _).mono ?_
        rintro e w' ⟨rfl, rfl⟩
        rw [HN.out]
        go_wp2_with fail
        refine (with_any m k _ hm hk).mono ?_
        rintro e w' ⟨rfl, rfl⟩
        go_wp2
        go_ret2
        exact ⟨rfl, HB.out⟩
/-- spec.SetMember. -/
theorem sSetMember_any (m k : Int) (b : Bool) (w : World) : Calls Try.prog 21 #[.int .i64 m, .int .i64 k, .bool b] w fun e w' => e = .returned (.tuple #[.int .i64 (setMember m k b).1, .int .i64 (setMember m k b).2]) ∧ Below w.heap.size w w' := by
  have hb : Below w.heap.size w (w.alloc (.cells #[.int .i64 m] 2)) := (Below.refl _ _).alloc (Nat.le_refl _) _
  have HB := Lib.hid hb; clear hb
  cases hv : isVec m with
  | false =>
    rw [sm_no1 hv]
    have HV := Lib.hid hv; clear hv
    go_enter Try.func21, Try.ntmps21
    go_wp2_with fail
    refine (l05Vector_any _ _ _ _ _ rdV1 (by omega)).mono ?_
    rintro e w' ⟨rfl, rfl⟩
    rw [allIn_one, HV.out]
    go_wp2
    go_ret2
    exact ⟨rfl, HB.out⟩
  | true =>
    have HV := Lib.hid hv
    cases hn : isNode k with
    | false =>
      rw [sm_no2 hn]
      have HN := Lib.hid hn; clear hn hv
      go_enter Try.func21, Try.ntmps21
      go_wp2_with fail
      refine (l05Vector_any _ _ _ _ _ rdV1 (by omega)).mono ?_
      rintro e w' ⟨rfl, rfl⟩
      rw [allIn_one, HV.out]
      go_wp2_with fail
      refine (l05Node_any _ _).mono ?_
      rintro e w' ⟨rfl, rfl⟩
      rw [HN.out]
      go_wp2
      go_ret2
      exact ⟨rfl, HB.out⟩
    | true =>
      obtain ⟨m, rfl, hm⟩ := isVec_nat hv
      obtain ⟨k, rfl, hk⟩ := isNode_nat hn
      rw [sm_yes hv hn]
      have HN := Lib.hid hn; clear hn hv
      go_enter Try.func21, Try.ntmps21
      go_wp2_with fail
      refine (l05Vector_any _ _ _ _ _ rdV1 (by omega)).mono ?_
      rintro e w' ⟨rfl, rfl⟩
      rw [allIn_one, HV.out]
      go_wp2_with fail
      refine (l05Node_any _ _).mono ?_
      rintro e w' ⟨rfl, rfl⟩
      rw [HN.out]
      go_wp2_with fail
      refine (l05Set_any m k b _ hm hk).mono ?_
      rintro e w' ⟨rfl, rfl⟩
      go_wp2
      go_ret2
      exact ⟨rfl, HB.out⟩
end Go.Proofs.Ytkidhilipeoliaa
