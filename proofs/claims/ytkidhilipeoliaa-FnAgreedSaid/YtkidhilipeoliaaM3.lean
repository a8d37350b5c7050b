/-
  Chapter 5: the nodes of a vector, MembersOf and VectorOf, of the program and of its model.
-/
import Derived.Test.YtkidhilipeoliaaM2
namespace Go.Proofs.Ytkidhilipeoliaa
open Go.RowKit

/-- The nodes of a vector, by the program. -/
theorem nodes_any (m : Nat) (w : World) : Calls Try.prog 50 #[.int .i64 m] w (Makes 2 w (nodesTo m 32)) := by
  go_enter Try.func50, Try.ntmps50
  go_wp2
  go_loopw [3, 5] (fun v i wr => ∃ k : Nat, k ≤ 32 ∧ i = .int .i64 k ∧ Own 2 wr w.heap.size v (nodesTo m k) ∧ Below w.heap.size w wr) (fun _ i _ => 32 - (intOf i).toNat)
  case atStart => exact ⟨0, by omega, rfl, Own.nil_, Below.refl _ _⟩
  case round =>
    obtain ⟨k, hk, rfl, hown, hbel⟩ := hrel
    have HB := Lib.hid hbel
    have hsz := hbel.size
    clear hbel
    have HO := Lib.hid hown; clear hown
    by_cases hlt : k < 32
    · have hlt' : (k : Int) < 32 := by omega
      have hlen := nodesTo_len m k
      have hl2 : (nodesTo m k).length ≤ 4294967296 := by omega
      clear hlen
      have hs := nodesTo_succ m k
      obtain ⟨bit, hbit⟩ : ∃ b, m.testBit k = b := ⟨_, rfl⟩
      rw [hbit] at hs
      have HS := Lib.hid hs; clear hs
      have HT := Lib.hid hbit; clear hbit
      cases bit
      · go_wp2_with fail
        refine (has_any m k _ hlt).mono ?_
        rintro e w' ⟨rfl, rfl⟩
        rw [HT.out]
        go_wp2
        go_roundw
        case rel => exact ⟨k + 1, by omega, by go_num, by have h := HS.out; rw [if_neg (by simp)] at h; rw [h]; exact HO.out, HB.out⟩
        case measure => simp [intOf]; omega
      · go_wp2_with fail
        refine (has_any m k _ hlt).mono ?_
        rintro e w' ⟨rfl, rfl⟩
        rw [HT.out]
        go_wp2_with (at_builtin; refine append_one _ rfl (.tmp 11) (.tmp 13) rfl w.heap.size Try.underlying25 info64 _ _ rfl (HO.out.below ((Below.refl _ _).alloc (Nat.le_refl _) _)) _ _ _ rfl (new_cell rfl) hl2 (by simp; omega) ?_; intro v' w' hown hbel)
        have HO' := Lib.hid hown; clear hown
        have HB' := Lib.hid hbel; clear hbel
        go_wp2
        go_roundw
        case rel => exact ⟨k + 1, by omega, by go_num, by have h := HS.out; rw [if_pos trivial] at h; rw [h]; exact HO'.out, (HB.out.alloc (by omega) _).trans HB'.out⟩
        case measure => simp [intOf]; omega
    · have hkn : k = 32 := by omega
      subst hkn
      go_wp2
      go_ret
      exact ⟨_, rfl, HO.out, HB.out⟩

/-- impl.MembersOf. -/
theorem membersOf_any (m : Int) (w : World) : Calls Try.prog 17 #[.int .i64 m] w (Makes2 2 w (membersOf m).1 (membersOf m).2) := by
  have hb : Below w.heap.size w (w.alloc (.cells #[.int .i64 m] 2)) := (Below.refl _ _).alloc (Nat.le_refl _) _
  have HB := Lib.hid hb; clear hb
  cases hv : isVec m with
  | false =>
    rw [mo_no hv]
    have HV := Lib.hid hv; clear hv
    go_enter Try.func17, Try.ntmps17
    go_wp2_with fail
    refine (areVectors_any _ _ _ _ _ rdV1 (by omega)).mono ?_
    rintro e w' ⟨rfl, rfl⟩
    rw [areVecs_one, HV.out]
    go_wp2
    go_ret2
    exact ⟨_, rfl, Own.nil_, HB.out⟩
  | true =>
    have HV := Lib.hid hv
    obtain ⟨m, rfl, hm⟩ := isVec_nat hv
    rw [mo_yes hv]
    clear hv
    go_enter Try.func17, Try.ntmps17
    go_wp2_with fail
    refine (areVectors_any _ _ _ _ _ rdV1 (by omega)).mono ?_
    rintro e w' ⟨rfl, rfl⟩
    rw [areVecs_one, HV.out]
    go_wp2_with fail
    refine (nodes_any m _).mono ?_
    rintro e w' ⟨v, rfl, o, b⟩
    go_wp2
    go_ret2
    exact ⟨_, rfl, o.more HB.out.size, below_two HB.out b⟩
/-- spec.MembersOf. -/
theorem sMembersOf_any (m : Int) (w : World) : Calls Try.prog 18 #[.int .i64 m] w (Makes2 2 w (membersOf m).1 (membersOf m).2) := by
  have hb : Below w.heap.size w (w.alloc (.cells #[.int .i64 m] 2)) := (Below.refl _ _).alloc (Nat.le_refl _) _
  have HB := Lib.hid hb; clear hb
  cases hv : isVec m with
  | false =>
    rw [mo_no hv]
    have HV := Lib.hid hv; clear hv
    go_enter Try.func18, Try.ntmps18
    go_wp2_with fail
    refine (l05Vector_any _ _ _ _ _ rdV1 (by omega)).mono ?_
    rintro e w' ⟨rfl, rfl⟩
    rw [allIn_one, HV.out]
    go_wp2
    go_ret2
    exact ⟨_, rfl, Own.nil_, HB.out⟩
  | true =>
    have HV := Lib.hid hv
    obtain ⟨m, rfl, hm⟩ := isVec_nat hv
    rw [mo_yes hv]
    clear hv
    go_enter Try.func18, Try.ntmps18
    go_wp2_with fail
    refine (l05Vector_any _ _ _ _ _ rdV1 (by omega)).mono ?_
    rintro e w' ⟨rfl, rfl⟩
    rw [allIn_one, HV.out]
    have hsz1 := HB.out.size
    generalize w.alloc (.cells #[.int .i64 (m : Int)] 2) = w1 at HB hsz1 ⊢
    go_wp2
    go_loopw [4, 5] (fun v i wr => ∃ k : Nat, k ≤ 32 ∧ i = .int .i64 k ∧ Own 2 wr w.heap.size v (nodesTo m k) ∧ Below w.heap.size w wr) (fun _ i _ => 32 - (intOf i).toNat)
    case atStart => exact ⟨0, by omega, rfl, Own.of_alloc_nil hsz1, HB.out.alloc hsz1 _⟩
    case round =>
      obtain ⟨k, hk, rfl, hown, hbel⟩ := hrel
      clear HB
      have HB := Lib.hid hbel
      have hsz := hbel.size
      clear hbel
      have HO := Lib.hid hown; clear hown
      by_cases hlt : k < 32
      · have hlt' : (k : Int) < 32 := by omega
        have hlen := nodesTo_len m k
        have hl2 : (nodesTo m k).length ≤ 4294967296 := by omega
        clear hlen
        have hs := nodesTo_succ m k
        obtain ⟨bit, hbit⟩ : ∃ b, m.testBit k = b := ⟨_, rfl⟩
        rw [hbit] at hs
        have HS := Lib.hid hs; clear hs
        have HT := Lib.hid hbit; clear hbit
        cases bit
        · go_wp2_with fail
          refine (l05Has_any m k _ hlt).mono ?_
          rintro e w' ⟨rfl, rfl⟩
          rw [HT.out]
          go_wp2
          go_roundw
          case rel => exact ⟨k + 1, by omega, by go_num, by have h := HS.out; rw [if_neg (by simp)] at h; rw [h]; exact HO.out, HB.out⟩
          case measure => simp [intOf]; omega
        · go_wp2_with fail
          refine (l05Has_any m k _ hlt).mono ?_
          rintro e w' ⟨rfl, rfl⟩
          rw [HT.out]
          go_wp2_with (at_builtin; refine append_one _ rfl (.tmp 18) (.tmp 20) rfl w.heap.size Try.underlying25 info64 _ _ rfl (HO.out.below ((Below.refl _ _).alloc (Nat.le_refl _) _)) _ _ _ rfl (new_cell rfl) hl2 (by simp; omega) ?_; intro v' w' hown hbel)
          have HO' := Lib.hid hown; clear hown
          have HB' := Lib.hid hbel; clear hbel
          go_wp2
          go_roundw
          case rel => exact ⟨k + 1, by omega, by go_num, by have h := HS.out; rw [if_pos trivial] at h; rw [h]; exact HO'.out, (HB.out.alloc (by omega) _).trans HB'.out⟩
          case measure => simp [intOf]; omega
      · have hkn : k = 32 := by omega
        subst hkn
        go_wp2
        go_ret2
        exact ⟨_, rfl, HO.out, HB.out⟩

/-- impl.VectorOf. -/
theorem vectorOf_any (ao : Option Addr) (n cap : Nat) (xs : List Int) (w : World) (hr : Rd w ao n xs) (hn : n ≤ 1048576) :
    Calls Try.prog 24 #[.slice ao n cap] w fun e w' => e = .returned (.tuple #[.int .i64 (vectorOf xs).1, .int .i64 (vectorOf xs).2]) ∧ w = w' := by
  obtain ⟨hlen, hat⟩ := hr
  have HL := Lib.hid hlen; clear hlen
  have HA := Lib.hid hat; clear hat
  go_enter Try.func24, Try.ntmps24
  go_wp2
  go_loop [4, 9] (fun v i => ∃ k a : Nat, k ≤ n ∧ i = .int .i64 k ∧ v = .int .i64 a ∧ a < 4294967296 ∧ Hid (vecFrom 0 (xs.take k) = some a)) (fun _ i => n - (intOf i).toNat)
  case atStart => exact ⟨0, 0, Nat.zero_le _, rfl, rfl, by omega, rfl⟩
  case round =>
    obtain ⟨k, a, hk, rfl, rfl, ha, hv⟩ := hrel
    by_cases hlt : k < n
    · obtain ⟨b, off, rfl, hc⟩ := HA.out (by omega)
      have hck := hc k hlt
      clear hc HA
      have hkx : k < xs.length := by rw [HL.out]; exact hlt
      have hstep := vecFrom_take hkx hv.out
      obtain ⟨x, hx⟩ : ∃ x, x = xs.getD k 0 := ⟨_, rfl⟩
      rw [← hx] at hck hstep
      clear hx hkx
      cases hnode : isNode x with
      | false =>
        have HS : Hid (vectorOf xs = (0, 2)) := vecFrom_none (k := k + 1) (by rw [hstep, hnode]; simp)
        have HN := Lib.hid hnode; clear hnode hstep
        go_wp2_with fail
        refine (isNode_any x _).mono ?_
        rintro e w' ⟨rfl, rfl⟩
        rw [HN.out]
        go_wp2
        go_ret2
        rw [HS.out]
        exact ⟨rfl, rfl⟩
      | true =>
        obtain ⟨j, rfl, hj⟩ := isNode_nat hnode
        rw [hnode, Int.toNat_natCast, Bool.true_and] at hstep
        have HN := Lib.hid hnode; clear hnode
        obtain ⟨bit, hbit⟩ : ∃ b, a.testBit j = b := ⟨_, rfl⟩
        rw [hbit] at hstep
        have HT := Lib.hid hbit; clear hbit
        cases bit
        · rw [if_pos (by rfl)] at hstep
          have HS := Lib.hid hstep; clear hstep
          have hlt' := setN_lt (b := true) ha hj
          go_wp2_with fail
          refine (isNode_any _ _).mono ?_
          rintro e w' ⟨rfl, rfl⟩
          rw [HN.out]
          go_wp2_with fail
          refine (has_any a j _ hj).mono ?_
          rintro e w' ⟨rfl, rfl⟩
          rw [HT.out]
          go_wp2_with fail
          refine (with_any a j _ ha hj).mono ?_
          rintro e w' ⟨rfl, rfl⟩
          go_wp2
          go_round
          case rel => exact ⟨k + 1, setN a j true, by omega, by go_num, rfl, hlt', HS.out⟩
          case measure => simp [intOf]; omega
        · rw [if_neg (by simp)] at hstep
          have HS : Hid (vectorOf xs = (0, 2)) := vecFrom_none hstep
          clear hstep
          go_wp2_with fail
          refine (isNode_any _ _).mono ?_
          rintro e w' ⟨rfl, rfl⟩
          rw [HN.out]
          go_wp2_with fail
          refine (has_any a j _ hj).mono ?_
          rintro e w' ⟨rfl, rfl⟩
          rw [HT.out]
          go_wp2
          go_ret2
          rw [HS.out]
          exact ⟨rfl, rfl⟩
    · have hkn : k = n := by omega
      subst hkn
      have HS : Hid (vectorOf xs = ((a : Int), 0)) := vecFrom_all (by rw [HL.out]; exact hv.out)
      go_wp2
      go_ret2
      rw [HS.out]
      exact ⟨rfl, rfl⟩
/-- spec.VectorOf. -/
theorem sVectorOf_any (ao : Option Addr) (n cap : Nat) (xs : List Int) (w : World) (hr : Rd w ao n xs) (hn : n ≤ 1048576) :
    Calls Try.prog 26 #[.slice ao n cap] w fun e w' => e = .returned (.tuple #[.int .i64 (vectorOf xs).1, .int .i64 (vectorOf xs).2]) ∧ w = w' := by
  obtain ⟨hlen, hat⟩ := hr
  have HL := Lib.hid hlen; clear hlen
  have HA := Lib.hid hat; clear hat
  go_enter Try.func26, Try.ntmps26
  go_wp2
  go_loop [4, 5] (fun v i => ∃ k a : Nat, k ≤ n ∧ i = .int .i64 k ∧ v = .int .i64 a ∧ a < 4294967296 ∧ Hid (vecFrom 0 (xs.take k) = some a)) (fun _ i => n - (intOf i).toNat)
  case atStart => exact ⟨0, 0, Nat.zero_le _, rfl, rfl, by omega, rfl⟩
  case round =>
    obtain ⟨k, a, hk, rfl, rfl, ha, hv⟩ := hrel
    by_cases hlt : k < n
    · obtain ⟨b, off, rfl, hc⟩ := HA.out (by omega)
      have hck := hc k hlt
      clear hc HA
      have hkx : k < xs.length := by rw [HL.out]; exact hlt
      have hstep := vecFrom_take hkx hv.out
      obtain ⟨x, hx⟩ : ∃ x, x = xs.getD k 0 := ⟨_, rfl⟩
      rw [← hx] at hck hstep
      clear hx hkx
      cases hnode : isNode x with
      | false =>
        have HS : Hid (vectorOf xs = (0, 2)) := vecFrom_none (k := k + 1) (by rw [hstep, hnode]; simp)
        have HN := Lib.hid hnode; clear hnode hstep
        go_wp2_with fail
        refine (l05Node_any x _).mono ?_
        rintro e w' ⟨rfl, rfl⟩
        rw [HN.out]
        go_wp2
        go_ret2
        rw [HS.out]
        exact ⟨rfl, rfl⟩
      | true =>
        obtain ⟨j, rfl, hj⟩ := isNode_nat hnode
        rw [hnode, Int.toNat_natCast, Bool.true_and] at hstep
        have HN := Lib.hid hnode; clear hnode
        obtain ⟨bit, hbit⟩ : ∃ b, a.testBit j = b := ⟨_, rfl⟩
        rw [hbit] at hstep
        have HT := Lib.hid hbit; clear hbit
        cases bit
        · rw [if_pos (by rfl)] at hstep
          have HS := Lib.hid hstep; clear hstep
          have hlt' := setN_lt (b := true) ha hj
          go_wp2_with fail
          refine (l05Node_any _ _).mono ?_
          rintro e w' ⟨rfl, rfl⟩
          rw [HN.out]
          go_wp2_with fail
          refine (l05Has_any a j _ hj).mono ?_
          rintro e w' ⟨rfl, rfl⟩
          rw [HT.out]
          go_wp2_with fail
          refine (l05Set_any a j true _ ha hj).mono ?_
          rintro e w' ⟨rfl, rfl⟩
          go_wp2
          go_round
          case rel => exact ⟨k + 1, setN a j true, by omega, by go_num, rfl, hlt', HS.out⟩
          case measure => simp [intOf]; omega
        · rw [if_neg (by simp)] at hstep
          have HS : Hid (vectorOf xs = (0, 2)) := vecFrom_none hstep
          clear hstep
          go_wp2_with fail
          refine (l05Node_any _ _).mono ?_
          rintro e w' ⟨rfl, rfl⟩
          rw [HN.out]
          go_wp2_with fail
          refine (l05Has_any a j _ hj).mono ?_
          rintro e w' ⟨rfl, rfl⟩
          rw [HT.out]
          go_wp2
          go_ret2
          rw [HS.out]
          exact ⟨rfl, rfl⟩
    · have hkn : k = n := by omega
      subst hkn
      have HS : Hid (vectorOf xs = ((a : Int), 0)) := vecFrom_all (by rw [HL.out]; exact hv.out)
      go_wp2
      go_ret2
      rw [HS.out]
      exact ⟨rfl, rfl⟩
end Go.Proofs.Ytkidhilipeoliaa
