/-
  Chapter 5: AgreedMembers, of the program and of its model.
-/
import Derived.Test.YtkidhilipeoliaaM6
namespace Go.Proofs.Ytkidhilipeoliaa
open Go.RowKit

theorem ag_no1 {xs : List Int} (h : areVecs xs = false) : agreedMembers xs = (0, 2) := by unfold agreedMembers; rw [if_neg (by rw [h]; simp)]
theorem ag_no2 {xs : List Int} (h : xs.length = 0) : agreedMembers xs = (0, 2) := by unfold agreedMembers; rw [if_neg (by rw [decide_eq_false (by omega : ¬ 1 ≤ xs.length)]; simp)]
theorem ag_yes {xs : List Int} (h : areVecs xs = true) (h1 : 1 ≤ xs.length) : agreedMembers xs = ((agreedTo xs 32 : Int), 0) := by unfold agreedMembers; rw [if_pos (by rw [h, decide_eq_true h1]; rfl)]
theorem areVecs_bound {xs : List Int} (h : areVecs xs = true) : ∀ x ∈ xs, 0 ≤ x ∧ x ≤ 4294967295 := by
  simp only [areVecs, within, Bool.and_eq_true] at h
  exact allIn_iff.1 h.2

theorem run_index_arr (C : Array Value) (k : Nat) (c : Int) (hk : k < 32) (hc : C[k]? = some (.int .i64 c)) (w : World) : (Instr.index 63 (.agg C) (.int .i64 (k : Int))).run Try.prog w = .ok (.int .i64 c) w := by
  simp [Instr.index, asIntOf, run_underlying underArr, hc, go_sem]
  intro h
  omega
/-- impl.AgreedMembers. -/
theorem agreedMembers_any (ao : Option Addr) (n cap : Nat) (xs : List Int) (w : World) (hr : Rd w ao n xs) (hn : n ≤ 1048576) :
    Calls Try.prog 28 #[.slice ao n cap] w fun e w' => e = .returned (.tuple #[.int .i64 (agreedMembers xs).1, .int .i64 (agreedMembers xs).2]) ∧ Below w.heap.size w w' := by
  have HR := Lib.hid hr
  have hlen := hr.len
  by_cases h0 : n = 0
  · subst h0
    rw [ag_no2 hlen]
    clear hlen hr
    go_enter Try.func28, Try.ntmps28
    go_wp2
    go_ret2
    exact ⟨rfl, Below.refl _ _⟩
  have z0 : ((n : Int) == 0) = false := by simp; omega
  cases hv : areVecs xs with
  | false =>
    rw [ag_no1 hv]
    have HV := Lib.hid hv; clear hv hlen hr
    go_enter Try.func28, Try.ntmps28
    go_wp2_with fail
    refine (areVectors_any _ _ _ _ _ HR.out (by omega)).mono ?_
    rintro e w' ⟨rfl, rfl⟩
    rw [HV.out]
    go_wp2
    go_ret2
    exact ⟨rfl, Below.refl _ _⟩
  | true =>
    rw [ag_yes hv (by omega)]
    have HV := Lib.hid hv
    have HB := Lib.hid (areVecs_bound hv)
    have hn32 := areVecs_len hv
    have HL := Lib.hid hlen
    have hn32 : n ≤ 32 := by omega
    clear hv hlen hr h0
    have HAG := Lib.hid (fun j => agreedTo_next xs j)
    have HLT := Lib.hid (fun j (h : j ≤ 32) => agreedTo_lt xs j h)
    have hcn : ∀ j, countN xs j ≤ n := fun j => by rw [← HL.out]; exact countN_le xs j
    have HCN := Lib.hid hcn; clear hcn
    have hcd : ∀ j, j < 32 → (cellsI (countTo xs n))[j]? = some (.int .i64 (countN xs j : Nat)) := fun j hj => by
      rw [cellsI_at (by rw [countTo_len]; exact hj), countTo_getD _ _ _ hj, ← HL.out, List.take_length]
    obtain ⟨C, hC⟩ : ∃ C, cellsI (countTo xs n) = C := ⟨_, rfl⟩
    rw [hC] at hcd
    have HC := Lib.hid hC; clear hC
    have HCD := Lib.hid hcd; clear hcd
    go_enter Try.func28, Try.ntmps28
    go_wp2_with fail
    refine (areVectors_any _ _ _ _ _ HR.out (by omega)).mono ?_
    rintro e w' ⟨rfl, rfl⟩
    rw [HV.out]
    go_wp2_with fail
    refine (countsOf_any _ _ _ _ _ HR.out hn HB.out).mono ?_
    rintro e w1 ⟨rfl, b1⟩
    rw [HC.out]
    have B1 := Lib.hid b1; clear b1
    go_wp2
    go_loop [4, 17] (fun v i => ∃ k : Nat, k ≤ 32 ∧ i = .int .i64 k ∧ Hid (v = .int .i64 (agreedTo xs k : Nat))) (fun _ i => 32 - (intOf i).toNat)
    case atStart => exact ⟨0, by omega, rfl, rfl⟩
    case round =>
      obtain ⟨k, hk, rfl, hv⟩ := hrel
      obtain ⟨a, ha⟩ : ∃ a, agreedTo xs k = a := ⟨_, rfl⟩
      have hstep := HAG.out k
      have hlt4 := HLT.out k hk
      rw [ha] at hv hstep hlt4
      have hv' := hv.out
      subst hv'
      clear hv
      by_cases hlt : k < 32
      · have hk3 : (k : Int) < 32 := by omega
        have hk4 : (0 : Int) ≤ (k : Int) := by omega
        obtain ⟨c, hc⟩ : ∃ c, countN xs k = c := ⟨_, rfl⟩
        have hck := HCD.out k hlt
        have hcb := HCN.out k
        rw [hc] at hck hcb hstep
        rw [HL.out] at hstep
        have hidx := fun w' => run_index_arr C k (c : Int) hlt hck w'
        clear hc ha
        by_cases hm : n < 2 * c
        · rw [if_pos hm] at hstep
          have HS := Lib.hid hstep; clear hstep
          have hm' : (n : Int) < 2 * (c : Int) := by omega
          go_wp2_with fail
          refine (with_any a k _ hlt4 hlt).mono ?_
          rintro e w' ⟨rfl, rfl⟩
          go_wp2
          go_round
          case rel => exact ⟨k + 1, by omega, by go_num, by rw [HS.out]; rfl⟩
          case measure => simp [intOf]; omega
        · rw [if_neg hm] at hstep
          have HS := Lib.hid hstep; clear hstep
          have hm' : ¬ (n : Int) < 2 * (c : Int) := by omega
          go_wp2
          go_round
          case rel => exact ⟨k + 1, by omega, by go_num, by rw [HS.out]; rfl⟩
          case measure => simp [intOf]; omega
      · have hkn : k = 32 := by omega
        subst hkn
        have HA := Lib.hid ha; clear ha hstep
        go_wp2
        go_ret2
        exact ⟨by rw [HA.out]; rfl, B1.out⟩
/-- spec.AgreedMembers. -/
theorem sAgreedMembers_any (ao : Option Addr) (n cap : Nat) (xs : List Int) (w : World) (hr : Rd w ao n xs) (hn : n ≤ 1048576) :
    Calls Try.prog 29 #[.slice ao n cap] w fun e w' => e = .returned (.tuple #[.int .i64 (agreedMembers xs).1, .int .i64 (agreedMembers xs).2]) ∧ Below w.heap.size w w' := by
  have HR := Lib.hid hr
  obtain ⟨hlen, hat⟩ := hr
  by_cases h0 : 1 ≤ (n : Int) ∧ (n : Int) ≤ 32
  rotate_left
  · have hno : agreedMembers xs = (0, 2) := by
      by_cases h : n = 0
      · exact ag_no2 (by omega)
      · exact ag_no1 (areVecs_long (by omega))
    rw [hno]
    clear hlen hat hno
    go_enter Try.func29, Try.ntmps29
    go_wp2_with fail
    refine (l01In_no _ _ _ _ (by omega)).mono ?_
    rintro e w' ⟨rfl, rfl⟩
    go_wp2
    go_ret2
    exact ⟨rfl, Below.refl _ _⟩
  obtain ⟨h1, h32⟩ := h0
  have hall := areVecs_all (xs := xs) (by omega)
  cases hv : areVecs xs with
  | false =>
    rw [ag_no1 hv]
    rw [hv] at hall
    have HV := Lib.hid hall.symm; clear hv hlen hat hall
    go_enter Try.func29, Try.ntmps29
    go_wp2_with fail
    refine (l01In_yes _ _ _ _ h1 h32).mono ?_
    rintro e w' ⟨rfl, rfl⟩
    go_wp2_with fail
    refine (l05Vector_any _ _ _ _ _ HR.out (by omega)).mono ?_
    rintro e w' ⟨rfl, rfl⟩
    rw [HV.out]
    go_wp2
    go_ret2
    exact ⟨rfl, Below.refl _ _⟩
  | true =>
    rw [ag_yes hv (by omega)]
    rw [hv] at hall
    have HV := Lib.hid hall.symm; clear hall
    have HBD := Lib.hid (areVecs_bound hv); clear hv
    have HL := Lib.hid hlen; clear hlen
    have HA := Lib.hid hat; clear hat
    have HLT := Lib.hid (fun j (h : j ≤ 32) => agreedTo_lt xs j h)
    have HN32 : Hid (n ≤ 32) := (by omega : n ≤ 32)
    go_enter Try.func29, Try.ntmps29
    go_wp2_with fail
    refine (l01In_yes _ _ _ _ h1 h32).mono ?_
    rintro e w' ⟨rfl, rfl⟩
    go_wp2_with fail
    refine (l05Vector_any _ _ _ _ _ HR.out (by omega)).mono ?_
    rintro e w' ⟨rfl, rfl⟩
    rw [HV.out]
    go_wp2
    go_loop [4, 5] (fun v i => ∃ k : Nat, k ≤ 32 ∧ i = .int .i64 k ∧ Hid (v = .int .i64 (agreedTo xs k : Nat))) (fun _ i => 32 - (intOf i).toNat)
    case atStart => exact ⟨0, by omega, rfl, rfl⟩
    case round =>
      obtain ⟨k, hk, rfl, hv⟩ := hrel
      obtain ⟨a, ha⟩ : ∃ a, agreedTo xs k = a := ⟨_, rfl⟩
      have hlt4 := HLT.out k hk
      rw [ha] at hv hlt4
      have hv' := hv.out
      subst hv'
      clear hv
      by_cases hlt : k < 32
      · have hk3 : (k : Int) < 32 := by omega
        have hstep : agreedTo xs (k + 1) = setN a k (decide (n < 2 * countN xs k)) := by rw [agreedTo, ha, HL.out]
        have HSTEP := Lib.hid hstep; clear hstep
        clear ha
        go_wp2
        go_loop [6, 7] (fun c i => ∃ p : Nat, p ≤ n ∧ i = .int .i64 p ∧ Hid (c = .int .i64 (countN (xs.take p) k : Nat))) (fun _ i => n - (intOf i).toNat)
        case atStart => exact ⟨0, by omega, rfl, rfl⟩
        case round =>
          obtain ⟨p, hp, rfl, hcv⟩ := hrel
          have hcb : countN (xs.take p) k ≤ p := Nat.le_trans (countN_le _ _) (by rw [List.length_take]; omega)
          obtain ⟨c, hc⟩ : ∃ c, countN (xs.take p) k = c := ⟨_, rfl⟩
          rw [hc] at hcb hcv
          have hcv' := hcv.out
          subst hcv'
          clear hcv
          have hn32 := HN32.out
          by_cases hpn : p < n
          · obtain ⟨b, off, rfl, hcell⟩ := HA.out (by omega)
            have hck := hcell p hpn
            clear hcell HA
            have hpx : p < xs.length := by rw [HL.out]; exact hpn
            have hbd := HBD.out _ (getD_mem' hpx)
            have hsucc := countN_succ xs p k hpx
            obtain ⟨m, hm⟩ : ∃ m : Nat, xs.getD p 0 = (m : Int) := ⟨(xs.getD p 0).toNat, by omega⟩
            rw [hm] at hck
            rw [hm, Int.toNat_natCast, hc] at hsucc
            clear hm hbd hpx hc
            obtain ⟨bit, hbit⟩ : ∃ b, m.testBit k = b := ⟨_, rfl⟩
            rw [hbit] at hsucc
            have HT := Lib.hid hbit; clear hbit
            cases bit
            · rw [if_neg (by simp), Nat.add_zero] at hsucc
              have HS := Lib.hid hsucc; clear hsucc
              go_wp2_with fail
              refine (l05Has_any m k _ hlt).mono ?_
              rintro e w' ⟨rfl, rfl⟩
              rw [HT.out]
              go_wp2
              go_round
              case rel => exact ⟨p + 1, by omega, by go_num, by rw [HS.out]; rfl⟩
              case measure => simp [intOf]; omega
            · rw [if_pos rfl] at hsucc
              have HS := Lib.hid hsucc; clear hsucc
              go_wp2_with fail
              refine (l05Has_any m k _ hlt).mono ?_
              rintro e w' ⟨rfl, rfl⟩
              rw [HT.out]
              go_wp2
              go_round
              case rel => exact ⟨p + 1, by omega, by go_num, by rw [HS.out]; show Value.int .i64 ((c : Int) + 1) = .int .i64 (((c + 1 : Nat)) : Int); congr 1⟩
              case measure => simp [intOf]; omega
          · have hpe : p = n := by omega
            subst hpe
            have hcn : countN xs k = c := by
              rw [← hc, ← HL.out, List.take_length]
            have HS := HSTEP.out
            rw [hcn] at HS
            replace HS := Lib.hid HS
            clear hcn hc
            obtain ⟨g, hg⟩ : ∃ g, decide (p < 2 * c) = g := ⟨_, rfl⟩
            have hg2 : decide ((p : Int) < 2 * (c : Int)) = g := by rw [← hg]; apply decide_eq_decide.2; omega
            have HG2 := Lib.hid hg2
            have hg3 : decide ((p : Int) < (c : Int) * 2) = g := by rw [← hg]; apply decide_eq_decide.2; omega
            have HG := Lib.hid hg; clear hg
            go_wp2_with fail
            refine (l05Set_any a k g _ hlt4 hlt).mono ?_
            rintro e w' ⟨rfl, rfl⟩
            go_wp2
            go_round
            case rel => exact ⟨k + 1, by omega, by go_num, by rw [HS.out, HG.out]; rfl⟩
            case measure => simp [intOf]; omega
      · have hkn : k = 32 := by omega
        subst hkn
        have HA2 := Lib.hid ha; clear ha
        go_wp2
        go_ret2
        exact ⟨by rw [HA2.out]; rfl, Below.refl _ _⟩
end Go.Proofs.Ytkidhilipeoliaa
