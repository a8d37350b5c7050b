/-
  Contracts of the program's, the model's and the laws' functions, and plain mathematics, on which a proof of this claim stands (part I).
-/
import Derived.Maps.OwnSet
import Derived.Carry
import Derived.Test.YthihjhidjnadaaaGreatP27A
import Derived.Test.YthihjhidjnadaaaGreatP27S
import Derived.Test.YthihjhidjnadaaaGreatP27M
import Derived.Test.YthihjhidjnadaaaGreatP27N
import Derived.Test.YthihjhidjnadaaaGreatP27Z
namespace Go.Proofs.YthihjhidjnadaaaGreat
section
open Go.RowKit
set_option maxRecDepth 100000 in
set_option maxHeartbeats 1000000 in
theorem timeOf_any (ao : Option Addr) (n cap : Nat) (t : List Sl) (w : World) (hr : RdE w ao n t) (hn : n ≤ 1048576) (hd : ∀ x ∈ t, 1 ≤ x.desc.dur ∧ x.desc.dur ≤ 1000) :
    Calls Tryz.prog 77 #[.slice ao n cap] w fun e w' => e = .returned (.int .i64 (dursum t)) ∧ Below w.heap.size w w' := by
  have HL := Lib.hid hr.len
  have HR := Lib.hid hr
  have HD := Lib.hid hd
  clear hr hd
  go_enter Tryz.func77, Tryz.ntmps77
  go_wp2_with fail
  go_loopw [3, 8] (fun s i wr => ∃ (k : Nat) (z : Int), k ≤ n ∧ s = .int .i64 z ∧ i = .int .i64 k ∧ Hid (z = dursum (t.take k)) ∧ Hid (Below w.heap.size w wr) ∧ Hid (RdE wr ao n t)) (fun _ i _ => n - (intOf i).toNat)
  case atStart => exact ⟨0, 0, Nat.zero_le _, rfl, rfl, rfl, Below.refl _ _, HR.out⟩
  case round =>
    clear HR
    obtain ⟨k, z, hk, rfl, rfl, HZ, HB, HRK⟩ := hrel
    by_cases hlt : k < n
    · obtain ⟨b, off, e0, hg, hx⟩ := HRK.out.at hlt
      subst e0
      have hkt : k < t.length := by rw [HL.out]; exact hlt
      have hnx := dursum_next hkt
      have hdx := HD.out _ (slOf_mem hkt)
      have hzb := dursum_in (t := t.take k) fun x hx => HD.out x (List.mem_of_mem_take hx)
      rw [← HZ.out] at hnx hzb
      have hzl : (t.take k).length ≤ 1048576 := by rw [List.length_take]; omega
      obtain ⟨x, hxe⟩ : ∃ x, x = slOf t k := ⟨_, rfl⟩
      rw [← hxe] at hx hnx hdx
      have hw : IntKind.i64.wrap (z + x.desc.dur) = z + x.desc.dur := by rw [IntKind.wrap_i64]; omega
      have HNX := Lib.hid hnx.symm
      clear hxe hkt hnx hdx hzb hzl HZ
      obtain ⟨q0, q1, q2, q3, q4, q5, q6, q7⟩ := hx.all8
      have bal := (Below.refl wr.heap.size wr).alloc (Nat.le_refl _) (.cells #[.int .i64 x.mode, .int .i64 x.round, .int .i64 x.slot, .int .i64 x.desc.node, .int .i64 x.desc.kind, .int .i64 x.desc.size, .int .i64 x.desc.dur, .bool x.desc.chg] 65)
      have HX1 := Lib.hid (SlBk.new (T := 65) (x := x) wr)
      have HB2 := Lib.hid (below_two HB.out bal)
      have HR2 := Lib.hid (HRK.out.below bal)
      clear bal HB HRK hx
      go_upto_region 5 with fail
      clear q0 q1 q2 q3 q4 q5 q6 q7
      generalize wr.alloc (.cells #[.int .i64 x.mode, .int .i64 x.round, .int .i64 x.slot, .int .i64 x.desc.node, .int .i64 x.desc.kind, .int .i64 x.desc.size, .int .i64 x.desc.dur, .bool x.desc.chg] 65) = w2 at HX1 HB2 HR2 ⊢
      obtain ⟨-, -, -, -, -, -, q6, -⟩ := HX1.out.all8
      go_wp2_with fail
      clear q6
      go_roundw
      case rel => exact ⟨k + 1, z + x.desc.dur, by omega, rfl, by go_num, HNX, HB2, HR2⟩
      case measure => simp [intOf]; omega
    · have hkn : k = n := by omega
      subst hkn
      have HF := Lib.hid (show z = dursum t from by rw [HZ.out, ← HL.out, List.take_length])
      go_wp2_with fail
      go_ret
      rw [← HF.out]
      exact ⟨rfl, HB.out⟩
set_option maxRecDepth 100000 in
set_option maxHeartbeats 1000000 in
theorem sendersIn_any (ao : Option Addr) (n cap : Nat) (t : List Sl) (w : World) (hr : RdE w ao n t) (hn : n ≤ 1048576) (hd : ∀ x ∈ t, 0 ≤ x.desc.node ∧ x.desc.node ≤ 31) :
    Calls Tryz.prog 249 #[.slice ao n cap] w fun e w' => e = .returned (.int .i64 (vecOfSl t : Nat)) ∧ Below w.heap.size w w' := by
  have HL := Lib.hid hr.len
  have HR := Lib.hid hr
  have HD := Lib.hid hd
  clear hr hd
  go_enter Tryz.func249, Tryz.ntmps249
  go_wp2_with fail
  go_loopw [3, 8] (fun s i wr => ∃ (k z : Nat), k ≤ n ∧ s = .int .i64 (z : Nat) ∧ i = .int .i64 k ∧ Hid (z = vecOfSl (t.take k)) ∧ Hid (Below w.heap.size w wr) ∧ Hid (RdE wr ao n t)) (fun _ i _ => n - (intOf i).toNat)
  case atStart => exact ⟨0, 0, Nat.zero_le _, rfl, rfl, rfl, Below.refl _ _, HR.out⟩
  case round =>
    clear HR
    obtain ⟨k, z, hk, rfl, rfl, HZ, HB, HRK⟩ := hrel
    by_cases hlt : k < n
    · obtain ⟨b, off, e0, hg, hx⟩ := HRK.out.at hlt
      subst e0
      have hkt : k < t.length := by rw [HL.out]; exact hlt
      have hnx := vec_app (t.take k) (slOf t k)
      rw [← take_slOf hkt] at hnx
      have hdx := HD.out _ (slOf_mem hkt)
      have hzb := vec_lt (t := t.take k) fun x hx => HD.out x (List.mem_of_mem_take hx)
      rw [← HZ.out] at hnx hzb
      obtain ⟨x, hxe⟩ : ∃ x, x = slOf t k := ⟨_, rfl⟩
      rw [← hxe] at hx hnx hdx
      obtain ⟨p, hp⟩ : ∃ p : Nat, x.desc.node = (p : Int) := ⟨x.desc.node.toNat, by omega⟩
      have hp31 : p < 32 := by omega
      rw [hp, Int.toNat_natCast] at hnx
      have HNX := Lib.hid hnx.symm
      have HC := Lib.hid (fun W => with_any z p W hzb hp31)
      have HP := Lib.hid hp
      clear hxe hkt hnx hdx hzb HZ hp
      obtain ⟨q0, q1, q2, q3, q4, q5, q6, q7⟩ := hx.all8
      have bal := (Below.refl wr.heap.size wr).alloc (Nat.le_refl _) (.cells #[.int .i64 x.mode, .int .i64 x.round, .int .i64 x.slot, .int .i64 x.desc.node, .int .i64 x.desc.kind, .int .i64 x.desc.size, .int .i64 x.desc.dur, .bool x.desc.chg] 65)
      have HX1 := Lib.hid (SlBk.new (T := 65) (x := x) wr)
      have HB2 := Lib.hid (below_two HB.out bal)
      have HR2 := Lib.hid (HRK.out.below bal)
      clear bal HB HRK hx
      go_upto_region 5 with fail
      clear q0 q1 q2 q3 q4 q5 q6 q7
      generalize wr.alloc (.cells #[.int .i64 x.mode, .int .i64 x.round, .int .i64 x.slot, .int .i64 x.desc.node, .int .i64 x.desc.kind, .int .i64 x.desc.size, .int .i64 x.desc.dur, .bool x.desc.chg] 65) = w2 at HX1 HB2 HR2 ⊢
      obtain ⟨-, -, -, q3, -, -, -, -⟩ := HX1.out.all8
      rw [HP.out] at q3
      go_wp2_with fail
      refine (HC.out _).mono ?_
      rintro e w3 ⟨rfl, rfl⟩
      go_wp2_with fail
      clear q3
      go_roundw
      case rel => exact ⟨k + 1, setN z p true, by omega, rfl, by go_num, HNX, HB2, HR2⟩
      case measure => simp [intOf]; omega
    · have hkn : k = n := by omega
      subst hkn
      have HF := Lib.hid (show z = vecOfSl t from by rw [HZ.out, ← HL.out, List.take_length])
      go_wp2_with fail
      go_ret
      rw [← HF.out]
      exact ⟨rfl, HB.out⟩
set_option maxRecDepth 100000 in
set_option maxHeartbeats 1000000 in
theorem slotCount_any (ao : Option Addr) (n cap : Nat) (cs : List Mc) (ms : List Md) (w : World) (hr : RdM w ao n cs) (hm : isModes ms = true) (hn : n ≤ ms.length) (he : ∀ i, i < n → (mcOf cs i).md = mdOf ms i) :
    Calls Tryz.prog 129 #[.slice ao n cap] w fun e w' => e = .returned (.int .i64 (slotCount ms n : Nat)) ∧ Below w.heap.size w w' := by
  have HR := Lib.hid hr
  have HM := Lib.hid hm
  have HE := Lib.hid he
  have HN := Lib.hid hn
  have hn16 : n ≤ 16 := by have := (isModes_iff.1 hm).1.2; omega
  clear hr hm he hn
  go_enter Tryz.func129, Tryz.ntmps129
  go_wp2_with fail
  go_loopw [3, 8] (fun s i wr => ∃ (k z : Nat), k ≤ n ∧ s = .int .i64 (z : Nat) ∧ i = .int .i64 k ∧ Hid (z = slotCount ms k) ∧ Hid (Below w.heap.size w wr) ∧ Hid (RdM wr ao n cs)) (fun _ i _ => n - (intOf i).toNat)
  case atStart => exact ⟨0, 0, Nat.zero_le _, rfl, rfl, rfl, Below.refl _ _, HR.out⟩
  case round =>
    clear HR
    obtain ⟨k, z, hk, rfl, rfl, HZ, HB, HRK⟩ := hrel
    by_cases hlt : k < n
    · obtain ⟨b, off, e0, hg, hx, -⟩ := HRK.out.at hlt
      subst e0
      have hkm : k < ms.length := by have := HN.out; omega
      have hnx : slotCount ms (k + 1) = slotCount ms k + (mdOf ms k).rounds.toNat * (mdOf ms k).slots.toNat := rfl
      have hzb := slotCount_le HM.out k (by omega)
      have hbd := md_bounds HM.out hkm
      rw [← HE.out k hlt] at hnx hbd
      rw [← HZ.out] at hnx hzb
      obtain ⟨x, hxe⟩ : ∃ x, x = mcOf cs k := ⟨_, rfl⟩
      rw [← hxe] at hx hnx hbd
      obtain ⟨R, hR⟩ : ∃ R : Nat, x.md.rounds = (R : Int) := ⟨x.md.rounds.toNat, by omega⟩
      obtain ⟨S, hS⟩ : ∃ S : Nat, x.md.slots = (S : Int) := ⟨x.md.slots.toNat, by omega⟩
      rw [hR, hS, Int.toNat_natCast, Int.toNat_natCast] at hnx
      have hRS : R * S ≤ 8 * 16 := Nat.mul_le_mul (by omega) (by omega)
      have hRSc : (R : Int) * (S : Int) = ((R * S : Nat) : Int) := (Int.natCast_mul R S).symm
      have hwm : IntKind.i64.wrap ((R : Int) * (S : Int)) = ((R * S : Nat) : Int) := by rw [IntKind.wrap_i64, hRSc]; omega
      clear hRSc
      obtain ⟨Y, hY⟩ : ∃ Y, Y = R * S := ⟨_, rfl⟩
      rw [← hY] at hwm hRS hnx
      have hw : IntKind.i64.wrap ((z : Int) + (Y : Int)) = ((z + Y : Nat) : Int) := by rw [IntKind.wrap_i64]; omega
      have HNX := Lib.hid hnx.symm
      obtain ⟨q0, q1, q2⟩ := hx
      have bal := (Below.refl wr.heap.size wr).alloc (Nat.le_refl _) (.cells #[.int .i64 x.md.rounds, .int .i64 x.md.slots, .slice x.ao x.md.next.length x.cap] 99)
      have HX1 := Lib.hid (McAt.new (T := 99) (c := x) wr)
      have HB2 := Lib.hid (below_two HB.out bal)
      have HR2 := Lib.hid (HRK.out.below bal)
      have HR' := Lib.hid hR; have HS' := Lib.hid hS
      clear bal HB HRK hxe hbd hnx hzb hkm HZ hY hRS hR hS
      go_upto_region 5 with fail
      clear q0 q1 q2
      generalize wr.alloc (.cells #[.int .i64 x.md.rounds, .int .i64 x.md.slots, .slice x.ao x.md.next.length x.cap] 99) = w2 at HX1 HB2 HR2 ⊢
      obtain ⟨q0, q1, -⟩ := HX1.out.in_
      rw [HR'.out] at q0
      rw [HS'.out] at q1
      simp only [Nat.zero_add] at q1
      go_wp2_with fail
      clear q0 q1
      go_roundw
      case rel => exact ⟨k + 1, z + Y, by omega, rfl, by go_num, HNX, HB2, HR2⟩
      case measure => simp [intOf]; omega
    · have hkn : k = n := by omega
      subst hkn
      go_wp2_with fail
      go_ret
      rw [← HZ.out]
      exact ⟨rfl, HB.out⟩
set_option maxRecDepth 100000 in
theorem haveSame_any (x y : Sl) (w : World) : Calls Tryz.prog 248 #[slVal x, slVal y] w fun e w' => e = .returned (.bool (decide (x.desc.dur = y.desc.dur))) ∧ Below w.heap.size w w' := by
  have HB := Lib.hid (show Below w.heap.size w ((w.alloc (.cells #[.int .i64 x.mode, .int .i64 x.round, .int .i64 x.slot, .int .i64 x.desc.node, .int .i64 x.desc.kind, .int .i64 x.desc.size, .int .i64 x.desc.dur, .bool x.desc.chg] 65)).alloc (.cells #[.int .i64 y.mode, .int .i64 y.round, .int .i64 y.slot, .int .i64 y.desc.node, .int .i64 y.desc.kind, .int .i64 y.desc.size, .int .i64 y.desc.dur, .bool y.desc.chg] 65)) from ((Below.refl w.heap.size w).alloc (Nat.le_refl _) _).alloc (by simp) _)
  unfold slVal
  go_enter Tryz.func248, Tryz.ntmps248
  go_wp2_with fail
  go_ret
  exact ⟨by simp [BEq.beq], HB.out⟩
end

section
open Go.RowKit
set_option maxRecDepth 100000 in
set_option maxHeartbeats 2000000 in
theorem hasSlot_any (ao : Option Addr) (n cap : Nat) (cs : List Mc) (x : Sl) (w : World) (hr : RdM w ao n cs) (hn : n ≤ 1048576) :
    Calls Tryz.prog 244 #[.slice ao n cap, slVal x] w fun e w' => e = .returned (.bool (hasSlotB (mds cs) x)) ∧ Below w.heap.size w w' := by
  have hl := (mds_len cs).trans hr.len
  have HC := Lib.hid (fun W => isModeOf_any ao n cap x.mode (mds cs) W hl (by omega))
  have bal := (Below.refl w.heap.size w).alloc (Nat.le_refl _) (.cells #[.int .i64 x.mode, .int .i64 x.round, .int .i64 x.slot, .int .i64 x.desc.node, .int .i64 x.desc.kind, .int .i64 x.desc.size, .int .i64 x.desc.dur, .bool x.desc.chg] 65)
  have HB := Lib.hid bal
  have HR := Lib.hid (hr.below bal)
  have HX := Lib.hid (SlBk.new (T := 65) (x := x) w)
  obtain ⟨r0, hr0⟩ : ∃ r0, r0 = hasSlotB (mds cs) x := ⟨_, rfl⟩
  rw [← hr0]
  clear hr bal
  unfold slVal
  rcases hm : isMode (mds cs) x.mode with _ | _
  · rw [hm] at HC
    have hf : r0 = false := by rw [hr0]; simp [hasSlotB, hm]
    subst hf
    clear hr0 hm
    go_enter Tryz.func244, Tryz.ntmps244
    go_upto_region 1 with fail
    generalize w.alloc (.cells #[.int .i64 x.mode, .int .i64 x.round, .int .i64 x.slot, .int .i64 x.desc.node, .int .i64 x.desc.kind, .int .i64 x.desc.size, .int .i64 x.desc.dur, .bool x.desc.chg] 65) = w1 at HB HR HX ⊢
    obtain ⟨q0, q1, q2, -⟩ := HX.out.all8
    go_wp2_with fail
    go_quiet ((go_at_call 134; exact quiet_left (HC.out _)))
    go_wp2
    go_ret
    exact ⟨rfl, below_drewN' HB.out _⟩
  · rw [hm] at HC
    obtain ⟨k, hk, hkl⟩ := mode_nat hm
    rw [hl] at hkl
    have HXC := Lib.hid (HR.out.at hkl)
    have hh : r0 = (decide (x.round < (mcOf cs k).md.rounds) && decide (x.slot < (mcOf cs k).md.slots)) := by
      rw [hr0]
      unfold hasSlotB
      rw [hm, hk, Int.toNat_natCast, mdOf_mds]
      rfl
    obtain ⟨b, off, e0, hg, hx, -⟩ := HXC.out
    subst e0
    generalize mcOf cs k = c at hx hh
    clear HXC hr0 hm hl
    obtain ⟨xm, xr, xs, xd⟩ := x
    dsimp only at hk hh HC HX HB HR hg hx ⊢
    subst hk
    have g1 : (k : Int) < (n : Int) := by omega
    have g0 : (0 : Int) ≤ (k : Int) := by omega
    have HCC := Lib.hid hx; clear hx
    by_cases h1 : xr < c.md.rounds
    · by_cases h2 : xs < c.md.slots
      · have hf : r0 = true := by rw [hh, decide_eq_true h1, decide_eq_true h2]; rfl
        subst hf
        clear hh
        go_enter Tryz.func244, Tryz.ntmps244
        go_upto_region 1 with fail
        generalize w.alloc (.cells #[.int .i64 (k : Int), .int .i64 xr, .int .i64 xs, .int .i64 xd.node, .int .i64 xd.kind, .int .i64 xd.size, .int .i64 xd.dur, .bool xd.chg] 65) = w1 at HB HR HX HCC hg ⊢
        obtain ⟨q0, q1, q2, -⟩ := HX.out.all8
        obtain ⟨z0, z1, -⟩ := HCC.out
        go_wp2_with fail
        go_quiet ((go_at_call 134; exact quiet_left (HC.out _)))
        go_wp2
        go_ret
        first | exact ⟨rfl, below_drewN' HB.out _⟩ | exact ⟨ret_bool (decide_eq_true h2), below_drewN' HB.out _⟩
      · have hf : r0 = false := by rw [hh, decide_eq_false h2, Bool.and_false]
        have HD2 := Lib.hid (decide_eq_false h2)
        subst hf
        clear hh
        go_enter Tryz.func244, Tryz.ntmps244
        go_upto_region 1 with fail
        generalize w.alloc (.cells #[.int .i64 (k : Int), .int .i64 xr, .int .i64 xs, .int .i64 xd.node, .int .i64 xd.kind, .int .i64 xd.size, .int .i64 xd.dur, .bool xd.chg] 65) = w1 at HB HR HX HCC hg ⊢
        obtain ⟨q0, q1, q2, -⟩ := HX.out.all8
        obtain ⟨z0, z1, -⟩ := HCC.out
        go_wp2_with fail
        go_quiet ((go_at_call 134; exact quiet_left (HC.out _)))
        go_wp2
        go_ret
        first | exact ⟨rfl, below_drewN' HB.out _⟩ | exact ⟨ret_bool HD2.out, below_drewN' HB.out _⟩
    · have hf : r0 = false := by rw [hh, decide_eq_false h1, Bool.false_and]
      have hd1 : decide (xr < c.md.rounds) = false := decide_eq_false h1
      subst hf
      clear hh
      go_enter Tryz.func244, Tryz.ntmps244
      go_upto_region 1 with fail
      generalize w.alloc (.cells #[.int .i64 (k : Int), .int .i64 xr, .int .i64 xs, .int .i64 xd.node, .int .i64 xd.kind, .int .i64 xd.size, .int .i64 xd.dur, .bool xd.chg] 65) = w1 at HB HR HX HCC hg ⊢
      obtain ⟨q0, q1, q2, -⟩ := HX.out.all8
      obtain ⟨z0, z1, -⟩ := HCC.out
      go_wp2_with fail
      go_quiet ((go_at_call 134; exact quiet_left (HC.out _)))
      go_wp2
      go_ret
      exact ⟨rfl, below_drewN' HB.out _⟩
end

section
open Go.RowKit
structure Full (m : Me) : Prop where
  r3 : isModes m.modes = true
  r4 : isSls m.slots = true
  r5 : rule5 m = true
def GivesPart (w : World) (t : List Sl) (e : Ending) (w' : World) : Prop := ∃ ao cap, e = .returned (.slice ao t.length cap) ∧ RdE w' ao t.length t ∧ t.length ≤ cap ∧ cap ≤ 9223372036854775807 ∧ Below w.heap.size w w'
theorem full_count {m : Me} (h : Full m) {k : Nat} (hk : k < m.modes.length) : ∃ A l : Nat, slotCount m.modes k = A ∧ slotCount m.modes (k + 1) = l + 1 + A ∧ (inMode m.slots k).length = l + 1 ∧ A + (l + 1) ≤ m.slots.length ∧ inMode m.slots k = (m.slots.drop A).take (l + 1) ∧ m.slots.length ≤ 120 := by
  have b := md_bounds h.r3 hk
  have hl := mode_len h.r4 h.r3 h.r5 hk
  have hp := (mode_parts h.r4 h.r3 h.r5 hk).1
  have h1 : 1 * 1 ≤ (mdOf m.modes k).rounds.toNat * (mdOf m.modes k).slots.toNat := Nat.mul_le_mul (by omega) (by omega)
  have e : slotCount m.modes (k + 1) = slotCount m.modes k + (mdOf m.modes k).rounds.toNat * (mdOf m.modes k).slots.toNat := rfl
  have hm := slotCount_mono m.modes (show k + 1 ≤ m.modes.length from hk)
  have hs := slots_len (m := m) h.r5
  have h120 := (isSls_iff.1 h.r4).1
  generalize (mdOf m.modes k).rounds.toNat * (mdOf m.modes k).slots.toNat = R at *
  obtain ⟨l, rfl⟩ : ∃ l, R = l + 1 := ⟨R - 1, by omega⟩
  exact ⟨slotCount m.modes k, l, rfl, by omega, by omega, by omega, hp, h120⟩
set_option maxRecDepth 100000 in
set_option maxHeartbeats 2000000 in
theorem cycleOf_any (v : Mv) (k : Nat) (w : World) (hr : RdMe w v) (h : Full v.me) (hk : k < v.cs.length) :
    Calls Tryz.prog 71 #[mvVal v, .int .i64 k] w (GivesPart w (inMode v.e k)) := by
  have hkm : k < v.me.modes.length := by show k < (mds v.cs).length; rw [mds_len]; exact hk
  obtain ⟨A, l, e1, e2, e3, e4, e5, e6⟩ := full_count h hkm
  change (inMode v.e k).length = l + 1 at e3
  change A + (l + 1) ≤ v.e.length at e4
  change inMode v.e k = (v.e.drop A).take (l + 1) at e5
  change v.e.length ≤ 120 at e6
  have hx := Bx.start (T := 28) hr
  have hrp : ∃ b off c, v.eo = some ⟨b, off, none⟩ ∧ v.ec = c + (l + 1) + A := by
    obtain ⟨b, off, e, -⟩ := hr.re.here (by omega)
    exact ⟨b, off, v.ec - A - (l + 1), e, by have := hr.ele; omega⟩
  obtain ⟨b, off, c, he, hc⟩ := hrp
  have hmc := hr.mle
  have hmc2 := hr.mcap
  have hec := hr.ecap
  have HPART := Lib.hid (fun W (hW : RdMe W v) => (by
    have h1 := hW.re
    rw [he] at h1
    have h2 := h1.part (c := A) (k := l + 1) e4
    rw [e3, e5]
    exact h2 : RdE W (some ⟨b, off + A * 8, none⟩) (inMode v.e k).length (inMode v.e k)))
  have HC1 := Lib.hid (fun W (hW : RdMe W v) => (by
    have h1 := slotCount_any v.mo k v.mc (v.cs.take k) v.me.modes W (hW.rm.take (by omega)) h.r3 (by omega) (fun i hi => by rw [mcOf_take hi]; exact (mdOf_mds v.cs i).symm)
    rw [e1] at h1
    exact h1 : Calls Tryz.prog 129 #[.slice v.mo k v.mc] W fun e w' => e = .returned (.int .i64 (A : Nat)) ∧ Below W.heap.size W w'))
  have HC2 := Lib.hid (fun W (hW : RdMe W v) => (by
    have h1 := slotCount_any v.mo (k + 1) v.mc (v.cs.take (k + 1)) v.me.modes W (hW.rm.take (by omega)) h.r3 (by omega) (fun i hi => by rw [mcOf_take hi]; exact (mdOf_mds v.cs i).symm)
    rw [e2] at h1
    exact h1 : Calls Tryz.prog 129 #[.slice v.mo (k + 1) v.mc] W fun e w' => e = .returned (.int .i64 ((l + 1 + A : Nat) : Int)) ∧ Below W.heap.size W w'))
  have HL := Lib.hid e3
  have h8 : A ≤ 120 := by omega
  have h9 : l + 1 ≤ 120 := by omega
  rw [hc] at hec
  clear e1 e2 e3 e4 e5 e6 hkm hr h
  obtain ⟨id, n, no, nc, cs, mo, mc, e, eo, ec⟩ := v
  subst he hc
  have HX := Lib.hid hx; clear hx
  dsimp only at hk hmc hmc2 hec HPART HC1 HC2 HL HX
  have g1 : (k : Int) ≤ (mc : Int) := by omega
  have g2 : (k : Int) + 1 ≤ (mc : Int) := by omega
  have g3 : (A : Int) ≤ (l : Int) + 1 + (A : Int) := by omega
  have g4 : (l : Int) + 1 + (A : Int) ≤ (c : Int) + ((l : Int) + 1) + (A : Int) := by omega
  have g0 : (0 : Int) ≤ (k : Int) + 1 := by omega
  have g7 : ((l : Int) + 1 + (A : Int)).toNat = l + 1 + A := by omega
  have g8 : l + 1 + A - A = l + 1 := by omega
  have g5 : ((k : Int) + 1).toNat = k + 1 := by omega
  have g6 : IntKind.i64.wrap ((k : Int) + 1) = (k : Int) + 1 := by rw [IntKind.wrap_i64]; omega
  have HE := Lib.hid hec; clear hec hmc hmc2
  unfold mvVal
  go_enter Tryz.func71, Tryz.ntmps71
  go_upto_region 1 with fail
  generalize w.alloc (.cells #[.int .i64 id, .slice no n.length nc, .slice mo cs.length mc, .slice (some ⟨b, off, none⟩) e.length (c + (l + 1) + A)] 28) = w1 at HX ⊢
  have HX1 := Lib.hid HX.out.drew
  go_region_held3 (fun w' => w'.cell? ⟨w.heap.size, 2, none⟩ = some (.slice mo cs.length mc) ∧ w'.cell? ⟨w.heap.size, 3, none⟩ = some (.slice (some ⟨b, off, none⟩) e.length (c + (l + 1) + A)))
    (first | exact HX1.out.at_.all.2.2 | exact HX2.out.at_.all.2.2 | exact HX3.out.at_.all.2.2)
    (first
      | (go_at_call 129; (with_reducible refine (HC1.out _ HX1.out.rd).mono ?_); rintro q w2 ⟨rfl, b2⟩; have HX2 := Lib.hid (HX1.out.call b2); clear b2)
      | (go_at_call 129; (with_reducible refine (HC2.out _ HX2.out.rd).mono ?_); rintro q w3 ⟨rfl, b3⟩; have HX3 := Lib.hid (HX2.out.call b3); clear b3))
  go_wp2_with fail
  go_ret
  exact ⟨_, _, by rw [HL.out, ← g8, ← g7]; rfl, HPART.out _ HX3.out.rd, by rw [HL.out]; omega, by have := HE.out; omega, HX3.out.below⟩
theorem mul_i64 {a b : Int} (c : Nat) (h : a * b = (c : Int)) (hc : c ≤ 1000000) : IntKind.i64.wrap (a * b) = (c : Int) := by rw [h, IntKind.wrap_i64]; omega
set_option maxRecDepth 100000 in
set_option maxHeartbeats 2000000 in
theorem roundOf_any (v : Mv) (k r : Nat) (w : World) (hr : RdMe w v) (h : Full v.me) (hk : k < v.cs.length) (hrr : r < (mdOf v.me.modes k).rounds.toNat) :
    Calls Tryz.prog 246 #[mvVal v, .int .i64 k, .int .i64 r] w (GivesPart w (inRound v.e k r)) := by
  have hkm : k < v.me.modes.length := by show k < (mds v.cs).length; rw [mds_len]; exact hk
  have hx := Bx.start (T := 28) hr
  have HCY := Lib.hid (fun W (hW : RdMe W v) => cycleOf_any v k W hW h hk)
  have hbd := md_bounds h.r3 hkm
  have hlen := mode_len h.r4 h.r3 h.r5 hkm
  obtain ⟨hp, -⟩ := round_parts h.r4 h.r3 h.r5 hkm hrr
  have hrl := round_len h.r4 h.r3 h.r5 hkm hrr
  have hmd : mdOf v.me.modes k = (mcOf v.cs k).md := mdOf_mds v.cs k
  rw [hmd] at hbd hlen hp hrl hrr
  change (inMode v.e k).length = _ at hlen
  change inRound v.e k r = ((inMode v.e k).drop _).take _ at hp
  change (inRound v.e k r).length = _ at hrl
  have h120 : (inMode v.e k).length ≤ 120 := by
    have h1 := inMode_le v.e k
    have h2 : v.e.length ≤ 120 := (isSls_iff.1 h.r4).1
    omega
  have hmi : ∃ bm om, v.mo = some ⟨bm, om, none⟩ := by
    obtain ⟨bm, om, e, -⟩ := hr.rm.here (by omega)
    exact ⟨bm, om, e⟩
  obtain ⟨bm, om, hmo⟩ := hmi
  have HXC := Lib.hid (fun W (hW : RdMe W v) => (by
    obtain ⟨bm', om', e, -, hx, -⟩ := hW.rm.at hk
    rw [hmo] at e
    cases e
    exact hx.c1 : W.cell? ⟨bm, om + k * 3 + 1, none⟩ = some (.int .i64 (mcOf v.cs k).md.slots)))
  obtain ⟨x, hxe⟩ : ∃ x, x = (mcOf v.cs k).md := ⟨_, rfl⟩
  rw [← hxe] at hbd hlen hp hrl hrr HXC
  obtain ⟨l, hl⟩ : ∃ l : Nat, x.slots = (l : Int) + 1 := ⟨x.slots.toNat - 1, by omega⟩
  obtain ⟨R, hR⟩ : ∃ R : Nat, x.rounds = (R : Int) := ⟨x.rounds.toNat, by omega⟩
  rw [hR, Int.toNat_natCast] at hrr
  rw [hl] at HXC
  rw [hR, hl, Int.toNat_natCast, show ((l : Int) + 1).toNat = l + 1 from by omega] at hlen
  rw [hl, show ((l : Int) + 1).toNat = l + 1 from by omega] at hp hrl
  obtain ⟨P, hP⟩ : ∃ P, P = r * (l + 1) := ⟨_, rfl⟩
  have hP1 : (r + 1) * (l + 1) = P + (l + 1) := by rw [hP, Nat.succ_mul]
  have hP2 : (r + 1) * (l + 1) ≤ R * (l + 1) := Nat.mul_le_mul_right _ (by omega)
  rw [← hP] at hp
  have hPl : P + (l + 1) ≤ (inMode v.e k).length := by omega
  have c1 : (r : Int) * ((l : Int) + 1) = (P : Int) := by rw [hP]; simp
  have c2 : ((r : Int) + 1) * ((l : Int) + 1) = ((l + 1 + P : Nat) : Int) := by
    have : ((r : Int) + 1) * ((l : Int) + 1) = (((r + 1) * (l + 1) : Nat) : Int) := by simp
    rw [this, hP1]; omega
  have g1 : IntKind.i64.wrap ((r : Int) * ((l : Int) + 1)) = (P : Int) := mul_i64 P c1 (by omega)
  have g2 : IntKind.i64.wrap (((r : Int) + 1) * ((l : Int) + 1)) = (l : Int) + 1 + (P : Int) := by rw [mul_i64 _ c2 (by omega)]; simp
  have g3 : IntKind.i64.wrap ((r : Int) + 1) = (r : Int) + 1 := by rw [IntKind.wrap_i64]; omega
  have g4 : (P : Int) ≤ (l : Int) + 1 + (P : Int) := by omega
  have g6 : (0 : Int) ≤ (l : Int) + 1 + (P : Int) := by omega
  have g7 : ((l : Int) + 1 + (P : Int)).toNat = l + 1 + P := by omega
  have g8 : l + 1 + P - P = l + 1 := by omega
  have g9 : (k : Int) < (v.cs.length : Int) := by omega
  have HP := Lib.hid hp; have HRL := Lib.hid hrl; have HPL := Lib.hid hPl
  clear hx hbd hlen hp hrl hrr hmd hP hP1 hP2 c1 c2 hR hl hxe hkm h120 hPl
  have HX := Lib.hid (Bx.start (T := 28) hr)
  clear hr h
  obtain ⟨id, n, no, nc, cs, mo, mc, e, eo, ec⟩ := v
  subst hmo
  dsimp only at hk HCY HXC HX HP HRL HPL g9
  unfold mvVal at HCY ⊢
  dsimp only at HCY ⊢
  go_enter Tryz.func246, Tryz.ntmps246
  go_upto_region 1 with fail
  generalize w.alloc (.cells #[.int .i64 id, .slice no n.length nc, .slice (some ⟨bm, om, none⟩) cs.length mc, .slice eo e.length ec] 28) = w1 at HX ⊢
  obtain ⟨q0, q1, q2, q3⟩ := HX.out.at_.all
  dsimp only at q0 q1 q2 q3
  have z1 := HXC.out _ HX.out.rd
  go_wp2_with fail
  refine (HCY.out _ HX.out.rd).mono ?_
  rintro q w2 ⟨ao, cap, rfl, hrd, hle, hcap, b2⟩
  obtain ⟨b, off, e0, -⟩ := hrd.here (by have := HPL.out; omega)
  subst e0
  have hpl := HPL.out
  obtain ⟨c, hc⟩ : ∃ c, cap = c + (l + 1) + P := ⟨cap - (l + 1) - P, by omega⟩
  subst hc
  have HF := Lib.hid (show RdE w2 (some ⟨b, off + P * 8, none⟩) (inRound e k r).length (inRound e k r) from by rw [HRL.out, HP.out]; exact hrd.part (by omega))
  have HB := Lib.hid (below_two HX.out.below b2)
  have HCAP := Lib.hid hcap
  have g10 : (l : Int) + 1 + (P : Int) ≤ (c : Int) + ((l : Int) + 1) + (P : Int) := by omega
  clear q0 q1 q2 q3 z1 hrd hle hcap b2 hpl HX HCY HXC
  go_wp2_with fail
  go_ret
  exact ⟨_, _, by rw [HRL.out, ← g8, ← g7]; rfl, HF.out, by rw [HRL.out]; omega, by have := HCAP.out; omega, HB.out⟩
set_option maxRecDepth 100000 in
set_option maxHeartbeats 2000000 in
theorem activeNodes_any (v : Mv) (w : World) (hr : RdMe w v) (h : isTable v.n = true) :
    Calls Tryz.prog 169 #[mvVal v] w fun e w' => e = .returned (.int .i64 (actv v.me : Nat)) ∧ Below w.heap.size w w' := by
  have HC := Lib.hid (fun W (hW : RdMe W v) => (by
    have h1 := activeVector_any v.no v.n.length v.nc v.n W hW.rn hW.nle hW.ncap hW.ns
    rw [show activeVector v.n = (((actv v.me : Nat) : Int), 0) from by unfold activeVector; rw [if_pos h]; rfl] at h1
    exact h1 : Calls Tryz.prog 203 #[.slice v.no v.n.length v.nc] W fun e w' => e = .returned (.tuple #[.int .i64 (actv v.me : Nat), .int .i64 0]) ∧ Below W.heap.size W w'))
  have HX := Lib.hid (Bx.start (T := 28) hr)
  clear hr h
  generalize actv v.me = z at HC ⊢
  unfold mvVal
  go_enter Tryz.func169, Tryz.ntmps169
  go_upto_region 1 with fail
  generalize w.alloc (.cells #[.int .i64 v.id, .slice v.no v.n.length v.nc, .slice v.mo v.cs.length v.mc, .slice v.eo v.e.length v.ec] 28) = w1 at HX ⊢
  obtain ⟨q0, q1, q2, q3⟩ := HX.out.at_.all
  go_wp2_with fail
  refine (HC.out _ HX.out.rd).mono ?_
  rintro q w2 ⟨rfl, b2⟩
  clear q0 q1 q2 q3
  go_wp2_with fail
  go_ret
  exact ⟨rfl, below_two HX.out.below b2⟩
end

section
open Go.RowKit
theorem id_rule (x : Int) : (inRange 0 16777215 x && !decide (x = 0)) = inRange 1 16777215 x := by
  rw [Bool.eq_iff_iff]
  simp [inRange]
  omega
set_option maxRecDepth 100000 in
set_option maxHeartbeats 2000000 in
theorem isMedlId_any (x : Int) (w : World) : Calls Tryz.prog 220 #[.int .i64 x] w fun e w' => e = .returned (.bool (inRange 1 16777215 x)) ∧ Below w.heap.size w w' := by
  rw [← id_rule]
  have HC := Lib.hid (fun W => isId_any x W)
  rcases h : inRange 0 16777215 x with _ | _
  · rw [h] at HC
    go_enter Tryz.func220, Tryz.ntmps220
    go_wp2_with (go_at_call 241; (with_reducible refine (HC.out _).mono ?_); rintro e w2 ⟨rfl, rfl⟩)
    go_ret
    exact ⟨rfl, Below.refl _ _⟩
  · rw [h] at HC
    by_cases h0 : x = 0
    · have hb : (x != 0) = false := by simp [h0]
      rw [show decide (x = 0) = true from decide_eq_true h0]
      clear h0 h
      go_enter Tryz.func220, Tryz.ntmps220
      go_wp2_with (go_at_call 241; (with_reducible refine (HC.out _).mono ?_); rintro e w2 ⟨rfl, rfl⟩)
      go_ret
      exact ⟨rfl, Below.refl _ _⟩
    · have hb : (x != 0) = true := by simp [h0]
      rw [show decide (x = 0) = false from decide_eq_false h0]
      clear h0 h
      go_enter Tryz.func220, Tryz.ntmps220
      go_wp2_with (go_at_call 241; (with_reducible refine (HC.out _).mono ?_); rintro e w2 ⟨rfl, rfl⟩)
      go_ret
      exact ⟨rfl, Below.refl _ _⟩
set_option maxRecDepth 100000 in
set_option maxHeartbeats 2000000 in
theorem rule1I_any (v : Mv) (w : World) (hr : RdMe w v) :
    Calls Tryz.prog 219 #[mvVal v] w fun e w' => e = .returned (.bool (inRange 1 16777215 v.id)) ∧ Below w.heap.size w w' := by
  have HX := Lib.hid (Bx.start (T := 28) hr)
  clear hr
  unfold mvVal
  go_enter Tryz.func219, Tryz.ntmps219
  go_upto_region 1 with fail
  generalize w.alloc (.cells #[.int .i64 v.id, .slice v.no v.n.length v.nc, .slice v.mo v.cs.length v.mc, .slice v.eo v.e.length v.ec] 28) = w1 at HX ⊢
  obtain ⟨q0, q1, q2, q3⟩ := HX.out.at_.all
  go_wp2_with fail
  refine (isMedlId_any _ _).mono ?_
  rintro q w2 ⟨rfl, b2⟩
  clear q0 q1 q2 q3
  go_wp2_with fail
  go_ret
  exact ⟨rfl, below_two HX.out.below b2⟩
set_option maxRecDepth 100000 in
set_option maxHeartbeats 2000000 in
theorem rule2I_any (v : Mv) (w : World) (hr : RdMe w v) :
    Calls Tryz.prog 221 #[mvVal v] w fun e w' => e = .returned (.bool (isTable v.n)) ∧ Below w.heap.size w w' := by
  have HX := Lib.hid (Bx.start (T := 28) hr)
  clear hr
  unfold mvVal
  go_enter Tryz.func221, Tryz.ntmps221
  go_upto_region 1 with fail
  generalize w.alloc (.cells #[.int .i64 v.id, .slice v.no v.n.length v.nc, .slice v.mo v.cs.length v.mc, .slice v.eo v.e.length v.ec] 28) = w1 at HX ⊢
  obtain ⟨q0, q1, q2, q3⟩ := HX.out.at_.all
  go_wp2_with fail
  refine (isTable_any _ _ _ _ _ HX.out.rd.rn HX.out.rd.nle HX.out.rd.ncap HX.out.rd.ns).mono ?_
  rintro q w2 ⟨rfl, b2⟩
  clear q0 q1 q2 q3
  go_wp2_with fail
  go_ret
  exact ⟨rfl, below_two HX.out.below b2⟩
set_option maxRecDepth 100000 in
set_option maxHeartbeats 2000000 in
theorem rule3I_any (v : Mv) (w : World) (hr : RdMe w v) :
    Calls Tryz.prog 222 #[mvVal v] w fun e w' => e = .returned (.bool (isModes (mds v.cs))) ∧ Below w.heap.size w w' := by
  have HX := Lib.hid (Bx.start (T := 28) hr)
  clear hr
  unfold mvVal
  go_enter Tryz.func222, Tryz.ntmps222
  go_upto_region 1 with fail
  generalize w.alloc (.cells #[.int .i64 v.id, .slice v.no v.n.length v.nc, .slice v.mo v.cs.length v.mc, .slice v.eo v.e.length v.ec] 28) = w1 at HX ⊢
  obtain ⟨q0, q1, q2, q3⟩ := HX.out.at_.all
  go_wp2_with fail
  refine (isModesI_any _ _ _ _ _ HX.out.rd.rm HX.out.rd.ml HX.out.rd.ms).mono ?_
  rintro q w2 ⟨rfl, b2⟩
  clear q0 q1 q2 q3
  go_wp2_with fail
  go_ret
  exact ⟨rfl, below_two HX.out.below b2⟩
set_option maxRecDepth 100000 in
set_option maxHeartbeats 2000000 in
theorem rule4I_any (v : Mv) (w : World) (hr : RdMe w v) :
    Calls Tryz.prog 223 #[mvVal v] w fun e w' => e = .returned (.bool (isSls v.e)) ∧ Below w.heap.size w w' := by
  have HX := Lib.hid (Bx.start (T := 28) hr)
  clear hr
  unfold mvVal
  go_enter Tryz.func223, Tryz.ntmps223
  go_upto_region 1 with fail
  generalize w.alloc (.cells #[.int .i64 v.id, .slice v.no v.n.length v.nc, .slice v.mo v.cs.length v.mc, .slice v.eo v.e.length v.ec] 28) = w1 at HX ⊢
  obtain ⟨q0, q1, q2, q3⟩ := HX.out.at_.all
  go_wp2_with fail
  refine (isSlsI_any _ _ _ _ _ HX.out.rd.re HX.out.rd.el).mono ?_
  rintro q w2 ⟨rfl, b2⟩
  clear q0 q1 q2 q3
  go_wp2_with fail
  go_ret
  exact ⟨rfl, below_two HX.out.below b2⟩
set_option maxRecDepth 100000 in
set_option maxHeartbeats 2000000 in
theorem hasAllSlots_any (v : Mv) (w : World) (hr : RdMe w v) (h3 : isModes (mds v.cs) = true) (h4 : isSls v.e = true) :
    Calls Tryz.prog 225 #[mvVal v] w fun e w' => e = .returned (.bool (rule5 v.me)) ∧ Below w.heap.size w w' := by
  have HR5 := Lib.hid (rule5_prog (m := v.me) h4 h3)
  have HX := Lib.hid (Bx.start (T := 28) hr)
  have HN := Lib.hid hr.el
  have HCN := Lib.hid (fun W (hW : RdMe W v) => slotCount_any v.mo v.cs.length v.mc v.cs (mds v.cs) W hW.rm h3 (by rw [mds_len]; exact Nat.le_refl _) (fun i _ => (mdOf_mds v.cs i).symm))
  have HZ := Lib.hid (show slotCount (mds v.cs) v.cs.length ≤ 4096 from by have h1 := slotCount_le h3 v.cs.length (by rw [mds_len]; exact Nat.le_refl _); have h2 := (isModes_iff.1 h3).1.2; rw [mds_len] at h2; omega)
  have HSC := Lib.hid (fun W (hW : RdMe W v) (x : Sl) => hasSlot_any v.mo v.cs.length v.mc v.cs x W hW.rm hW.ml)
  unfold slVal at HSC
  have hrt : v.me.modes = mds v.cs := rfl
  have hrl : (mds v.cs).length = v.cs.length := mds_len v.cs
  rw [hrt, hrl] at HR5
  obtain ⟨R, hR⟩ : ∃ R, R = rule5 v.me := ⟨_, rfl⟩
  rw [← hR] at HR5 ⊢
  clear hR hr h3 h4 hrt hrl
  unfold mvVal
  go_enter Tryz.func225, Tryz.ntmps225
  go_upto_region 1 with fail
  generalize w.alloc (.cells #[.int .i64 v.id, .slice v.no v.n.length v.nc, .slice v.mo v.cs.length v.mc, .slice v.eo v.e.length v.ec] 28) = w1 at HX ⊢
  obtain ⟨q0, q1, q2, q3⟩ := HX.out.at_.all
  go_wp2_with fail
  clear q0 q1 q2 q3
  go_loopw [8] (fun i wr => ∃ k : Nat, k ≤ v.e.length ∧ i = .int .i64 k ∧ Hid (∀ j, j < k → hasSlotB (mds v.cs) (slOf v.e j) = true) ∧ Hid (Bx 28 w wr w.heap.size v)) (fun i _ => v.e.length - (intOf i).toNat)
  case atStart => exact ⟨0, Nat.zero_le _, rfl, fun j h => absurd h (by omega), HX.out⟩
  case round =>
    clear HX
    obtain ⟨k, hk, rfl, HALL, HX⟩ := hrel
    by_cases hlt : k < v.e.length
    · obtain ⟨b, off, e0, hg, hx⟩ := HX.out.rd.re.at hlt
      have hk20 : k ≤ 1048576 := by have := HN.out; omega
      have HNO := Lib.hid (fun (h : hasSlotB (mds v.cs) (slOf v.e k) = false) => (by
        rw [HR5.out]
        have : v.e.all (hasSlotB (mds v.cs)) = false := by
          rw [Bool.eq_false_iff]
          intro hc
          have := List.all_eq_true.1 hc _ (slOf_mem hlt)
          rw [h] at this
          cases this
        show (v.e.all (hasSlotB (mds v.cs)) && _) = false
        rw [this]; rfl : R = false))
      have HYES := Lib.hid (fun (h : hasSlotB (mds v.cs) (slOf v.e k) = true) j (hj : j < k + 1) => (by
        rcases Nat.lt_or_ge j k with hl | hl
        · exact HALL.out j hl
        · rw [show j = k from by omega]; exact h : hasSlotB (mds v.cs) (slOf v.e j) = true))
      generalize slOf v.e k = x at hx HNO HYES
      have HC := Lib.hid (fun W (hW : RdMe W v) => HSC.out W hW x)
      obtain ⟨q0, q1, q2, q3, q4, q5, q6, q7⟩ := hx.all8
      have HX1 := Lib.hid (SlBk.new (T := 65) (x := x) wr)
      have HX2 := Lib.hid (HX.out.call ((Below.refl wr.heap.size wr).alloc (Nat.le_refl _) (.cells #[.int .i64 x.mode, .int .i64 x.round, .int .i64 x.slot, .int .i64 x.desc.node, .int .i64 x.desc.kind, .int .i64 x.desc.size, .int .i64 x.desc.dur, .bool x.desc.chg] 65)))
      clear HX hx HALL hg
      rw [e0]
      clear e0
      go_upto_region 4 with fail
      clear q0 q1 q2 q3 q4 q5 q6 q7
      generalize wr.alloc (.cells #[.int .i64 x.mode, .int .i64 x.round, .int .i64 x.slot, .int .i64 x.desc.node, .int .i64 x.desc.kind, .int .i64 x.desc.size, .int .i64 x.desc.dur, .bool x.desc.chg] 65) = w2 at HX1 HX2 ⊢
      obtain ⟨q0, q1, q2, q3, q4, q5, q6, q7⟩ := HX1.out.all8
      obtain ⟨z0, z1, z2, z3⟩ := HX2.out.at_.all
      rcases hd : hasSlotB (mds v.cs) x with _ | _
      · have HF := Lib.hid (HNO.out hd)
        rw [hd] at HC
        clear hd HNO HYES
        go_wp2_with (go_at_call 244; (with_reducible refine (HC.out _ HX2.out.rd).mono ?_); rintro e w3 ⟨rfl, b3⟩)
        clear q0 q1 q2 q3 q4 q5 q6 q7 z0 z1 z2 z3
        go_ret
        rw [HF.out]
        exact ⟨rfl, below_two HX2.out.below b3⟩
      · have HN2 := Lib.hid (HYES.out hd)
        rw [hd] at HC
        clear hd HNO HYES
        go_wp2_with (go_at_call 244; (with_reducible refine (HC.out _ HX2.out.rd).mono ?_); rintro e w3 ⟨rfl, b3⟩)
        clear q0 q1 q2 q3 q4 q5 q6 q7 z0 z1 z2 z3
        go_roundw
        case rel => exact ⟨k + 1, by omega, by go_num, HN2, HX2.out.call b3⟩
        case measure => simp [intOf]; omega
    · have hkn : k = v.e.length := by omega
      have hA : v.e.all (hasSlotB (mds v.cs)) = true := by
        rw [List.all_eq_true]
        intro x hx
        obtain ⟨j, hj, rfl⟩ := mem_slOf hx
        exact HALL.out j (by omega)
      have HR := Lib.hid (show R = decide (v.e.length = slotCount (mds v.cs) v.cs.length) from by rw [HR5.out]; show (v.e.all (hasSlotB (mds v.cs)) && _) = _; rw [hA]; rfl)
      clear HALL hA HR5
      subst hkn
      generalize slotCount (mds v.cs) v.cs.length = z at HR HCN HZ
      have hzz := HZ.out
      have hen := HN.out
      by_cases hc : v.e.length = z
      · have hb : ((v.e.length : Int) == (z : Int)) = true := by simp [hc]
        have HF := Lib.hid (show R = true from by rw [HR.out]; exact decide_eq_true hc)
        clear hc HR
        go_wp2_with fail
        have HX1 := Lib.hid HX.out.drew
        go_region_held3 (fun w' => w'.cell? ⟨w.heap.size, 2, none⟩ = some (.slice v.mo v.cs.length v.mc) ∧ w'.cell? ⟨w.heap.size, 3, none⟩ = some (.slice v.eo v.e.length v.ec))
          (first | exact HX1.out.at_.all.2.2 | exact HX2.out.at_.all.2.2)
          (first
            | (go_at_call 129; (with_reducible refine (HCN.out _ HX1.out.rd).mono ?_); rintro q w2 ⟨rfl, b2⟩; have HX2 := Lib.hid (HX1.out.call b2); clear b2))
        go_wp2_with fail
        go_ret
        rw [HF.out]
        exact ⟨rfl, HX2.out.below⟩
      · have hb : ((v.e.length : Int) == (z : Int)) = false := by simp; omega
        have HF := Lib.hid (show R = false from by rw [HR.out]; exact decide_eq_false hc)
        clear hc HR
        go_wp2_with fail
        have HX1 := Lib.hid HX.out.drew
        go_region_held3 (fun w' => w'.cell? ⟨w.heap.size, 2, none⟩ = some (.slice v.mo v.cs.length v.mc) ∧ w'.cell? ⟨w.heap.size, 3, none⟩ = some (.slice v.eo v.e.length v.ec))
          (first | exact HX1.out.at_.all.2.2 | exact HX2.out.at_.all.2.2)
          (first
            | (go_at_call 129; (with_reducible refine (HCN.out _ HX1.out.rd).mono ?_); rintro q w2 ⟨rfl, b2⟩; have HX2 := Lib.hid (HX1.out.call b2); clear b2))
        go_wp2_with fail
        go_ret
        rw [HF.out]
        exact ⟨rfl, HX2.out.below⟩
set_option maxRecDepth 100000 in
set_option maxHeartbeats 2000000 in
theorem hasActive_any (v : Mv) (w : World) (hr : RdMe w v) (h2 : isTable v.n = true) (h4 : isSls v.e = true) :
    Calls Tryz.prog 226 #[mvVal v] w fun e w' => e = .returned (.bool (rule6 v.me)) ∧ Below w.heap.size w w' := by
  have HX := Lib.hid (Bx.start (T := 28) hr)
  have HN := Lib.hid hr.el
  have HAC := Lib.hid (fun W (hW : RdMe W v) => activeNodes_any v W hW h2)
  have HND := Lib.hid (fun x (hx : x ∈ v.e) => sl_node h4 hx)
  obtain ⟨R, hR⟩ : ∃ R, R = rule6 v.me := ⟨_, rfl⟩
  have HR6 := Lib.hid (show R = v.e.all (fun x => (actv v.me).testBit x.desc.node.toNat) from hR)
  rw [← hR]
  clear hR hr h2 h4
  generalize actv v.me = A at HAC HR6
  unfold mvVal at HAC ⊢
  go_enter Tryz.func226, Tryz.ntmps226
  go_upto_region 1 with fail
  generalize w.alloc (.cells #[.int .i64 v.id, .slice v.no v.n.length v.nc, .slice v.mo v.cs.length v.mc, .slice v.eo v.e.length v.ec] 28) = w1 at HX ⊢
  obtain ⟨q0, q1, q2, q3⟩ := HX.out.at_.all
  go_wp2_with fail
  refine (HAC.out _ HX.out.rd).mono ?_
  rintro e w2 ⟨rfl, b2⟩
  have HX2 := Lib.hid (HX.out.call b2)
  clear q0 q1 q2 q3 b2 HX
  obtain ⟨q0, q1, q2, q3⟩ := HX2.out.at_.all
  go_wp2_with fail
  clear q0 q1 q2 q3
  go_loopw [11] (fun i wr => ∃ k : Nat, k ≤ v.e.length ∧ i = .int .i64 k ∧ Hid (∀ j, j < k → A.testBit (slOf v.e j).desc.node.toNat = true) ∧ Hid (Bx 28 w wr w.heap.size v)) (fun i _ => v.e.length - (intOf i).toNat)
  case atStart => exact ⟨0, Nat.zero_le _, rfl, fun j h => absurd h (by omega), HX2.out⟩
  case round =>
    clear HX2
    obtain ⟨k, hk, rfl, HALL, HX⟩ := hrel
    by_cases hlt : k < v.e.length
    · obtain ⟨b, off, e0, hg, hx⟩ := HX.out.rd.re.at hlt
      have hk20 : k ≤ 1048576 := by have := HN.out; omega
      have HNO := Lib.hid (fun (h : A.testBit (slOf v.e k).desc.node.toNat = false) => (by
        rw [HR6.out, Bool.eq_false_iff]
        intro hc
        have := List.all_eq_true.1 hc _ (slOf_mem hlt)
        rw [h] at this
        exact Bool.noConfusion this : R = false))
      have HYES := Lib.hid (fun (h : A.testBit (slOf v.e k).desc.node.toNat = true) j (hj : j < k + 1) => (by
        rcases Nat.lt_or_ge j k with hl | hl
        · exact HALL.out j hl
        · rw [show j = k from by omega]; exact h : A.testBit (slOf v.e j).desc.node.toNat = true))
      have hnd := HND.out _ (slOf_mem hlt)
      generalize slOf v.e k = x at hx HNO HYES hnd
      obtain ⟨p, hp⟩ : ∃ p : Nat, x.desc.node = (p : Int) := ⟨x.desc.node.toNat, by omega⟩
      have hp31 : p < 32 := by omega
      have HP := Lib.hid hp
      rw [hp, Int.toNat_natCast] at HNO HYES
      have HC := Lib.hid (fun W => has_any A p W hp31)
      obtain ⟨q0, q1, q2, q3, q4, q5, q6, q7⟩ := hx.all8
      have HX1 := Lib.hid (SlBk.new (T := 65) (x := x) wr)
      have HX2 := Lib.hid (HX.out.call ((Below.refl wr.heap.size wr).alloc (Nat.le_refl _) (.cells #[.int .i64 x.mode, .int .i64 x.round, .int .i64 x.slot, .int .i64 x.desc.node, .int .i64 x.desc.kind, .int .i64 x.desc.size, .int .i64 x.desc.dur, .bool x.desc.chg] 65)))
      clear HX hx HALL hg hnd hp
      rw [e0]
      clear e0
      go_upto_region 5 with fail
      clear q0 q1 q2 q3 q4 q5 q6 q7
      generalize wr.alloc (.cells #[.int .i64 x.mode, .int .i64 x.round, .int .i64 x.slot, .int .i64 x.desc.node, .int .i64 x.desc.kind, .int .i64 x.desc.size, .int .i64 x.desc.dur, .bool x.desc.chg] 65) = w2 at HX1 HX2 ⊢
      obtain ⟨-, -, -, q3, -, -, -, -⟩ := HX1.out.all8
      rw [HP.out] at q3
      rcases hd : A.testBit p with _ | _
      · have HF := Lib.hid (HNO.out hd)
        rw [hd] at HC
        clear hd HNO HYES
        go_wp2_with (go_at_call 245; (with_reducible refine (HC.out _).mono ?_); rintro e w3 ⟨rfl, rfl⟩)
        clear q3
        go_ret
        rw [HF.out]
        exact ⟨rfl, HX2.out.below⟩
      · have HN2 := Lib.hid (HYES.out hd)
        rw [hd] at HC
        clear hd HNO HYES
        go_wp2_with (go_at_call 245; (with_reducible refine (HC.out _).mono ?_); rintro e w3 ⟨rfl, rfl⟩)
        clear q3
        go_roundw
        case rel => exact ⟨k + 1, by omega, by go_num, HN2, HX2.out⟩
        case measure => simp [intOf]; omega
    · have hkn : k = v.e.length := by omega
      have HF := Lib.hid (show R = true from by
        rw [HR6.out, List.all_eq_true]
        intro x hx
        obtain ⟨j, hj, rfl⟩ := mem_slOf hx
        exact HALL.out j (by omega))
      clear HALL
      subst hkn
      go_wp2_with fail
      go_ret
      rw [HF.out]
      exact ⟨rfl, HX.out.below⟩
set_option maxRecDepth 100000 in
set_option maxHeartbeats 2000000 in
theorem startsFirst_any (v : Mv) (w : World) (hr : RdMe w v) :
    Calls Tryz.prog 230 #[mvVal v] w fun e w' => e = .returned (.bool (rule10 v.me)) ∧ Below w.heap.size w w' := by
  have HX := Lib.hid (Bx.start (T := 28) hr)
  have HN := Lib.hid hr.el
  obtain ⟨R, hR⟩ : ∃ R, R = rule10 v.me := ⟨_, rfl⟩
  have HR6 := Lib.hid (show R = v.e.all coldOk from hR)
  rw [← hR]
  clear hR hr
  unfold mvVal
  go_enter Tryz.func230, Tryz.ntmps230
  go_upto_region 1 with fail
  generalize w.alloc (.cells #[.int .i64 v.id, .slice v.no v.n.length v.nc, .slice v.mo v.cs.length v.mc, .slice v.eo v.e.length v.ec] 28) = w1 at HX ⊢
  obtain ⟨q0, q1, q2, q3⟩ := HX.out.at_.all
  go_wp2_with fail
  clear q0 q1 q2 q3
  go_loopw [8] (fun i wr => ∃ k : Nat, k ≤ v.e.length ∧ i = .int .i64 k ∧ Hid (∀ j, j < k → coldOk (slOf v.e j) = true) ∧ Hid (Bx 28 w wr w.heap.size v)) (fun i _ => v.e.length - (intOf i).toNat)
  case atStart => exact ⟨0, Nat.zero_le _, rfl, fun j h => absurd h (by omega), HX.out⟩
  case round =>
    clear HX
    obtain ⟨k, hk, rfl, HALL, HX⟩ := hrel
    by_cases hlt : k < v.e.length
    · obtain ⟨b, off, e0, hg, hx⟩ := HX.out.rd.re.at hlt
      have hk20 : k ≤ 1048576 := by have := HN.out; omega
      have HNO := Lib.hid (fun (h : coldOk (slOf v.e k) = false) => (by
        rw [HR6.out, Bool.eq_false_iff]
        intro hc
        have := List.all_eq_true.1 hc _ (slOf_mem hlt)
        rw [h] at this
        exact Bool.noConfusion this : R = false))
      have HYES := Lib.hid (fun (h : coldOk (slOf v.e k) = true) j (hj : j < k + 1) => (by
        rcases Nat.lt_or_ge j k with hl | hl
        · exact HALL.out j hl
        · rw [show j = k from by omega]; exact h : coldOk (slOf v.e j) = true))
      generalize slOf v.e k = x at hx HNO HYES
      obtain ⟨q0, q1, q2, q3, q4, q5, q6, q7⟩ := hx.all8
      have HX1 := Lib.hid (SlBk.new (T := 65) (x := x) wr)
      have HX2 := Lib.hid (HX.out.call ((Below.refl wr.heap.size wr).alloc (Nat.le_refl _) (.cells #[.int .i64 x.mode, .int .i64 x.round, .int .i64 x.slot, .int .i64 x.desc.node, .int .i64 x.desc.kind, .int .i64 x.desc.size, .int .i64 x.desc.dur, .bool x.desc.chg] 65)))
      clear HX hx HALL hg
      rw [e0]
      clear e0
      go_upto_region 4 with fail
      clear q0 q1 q2 q3 q4 q5 q6 q7
      generalize wr.alloc (.cells #[.int .i64 x.mode, .int .i64 x.round, .int .i64 x.slot, .int .i64 x.desc.node, .int .i64 x.desc.kind, .int .i64 x.desc.size, .int .i64 x.desc.dur, .bool x.desc.chg] 65) = w2 at HX1 HX2 ⊢
      obtain ⟨q0, -, -, -, q4, -, -, -⟩ := HX1.out.all8
      by_cases h3 : x.desc.kind = 3
      · have t3 : (x.desc.kind == 3) = true := by simp [h3]
        by_cases h0 : x.mode = 0
        · have t0 : (x.mode != 0) = false := by simp [h0]
          have HN2 := Lib.hid (HYES.out (by simp [coldOk, h0]))
          clear h3 h0 HNO HYES
          go_wp2_with fail
          clear q0 q4
          go_roundw
          case rel => exact ⟨k + 1, by omega, by go_num, HN2, HX2.out⟩
          case measure => simp [intOf]; omega
        · have t0 : (x.mode != 0) = true := by simp [h0]
          have HF := Lib.hid (HNO.out (by simp [coldOk, h0, h3]))
          clear h3 h0 HNO HYES
          go_wp2_with fail
          clear q0 q4
          go_ret
          rw [HF.out]
          exact ⟨rfl, HX2.out.below⟩
      · have t3 : (x.desc.kind == 3) = false := by simp [h3]
        have HN2 := Lib.hid (HYES.out (by simp [coldOk, h3]))
        clear h3 HNO HYES
        go_wp2_with fail
        clear q0 q4
        go_roundw
        case rel => exact ⟨k + 1, by omega, by go_num, HN2, HX2.out⟩
        case measure => simp [intOf]; omega
    · have hkn : k = v.e.length := by omega
      have HF := Lib.hid (show R = true from by
        rw [HR6.out, List.all_eq_true]
        intro x hx
        obtain ⟨j, hj, rfl⟩ := mem_slOf hx
        exact HALL.out j (by omega))
      clear HALL
      subst hkn
      go_wp2_with fail
      go_ret
      rw [HF.out]
      exact ⟨rfl, HX.out.below⟩
end

section
open Go.RowKit
def dursTo (s t : List Sl) (n : Nat) : Bool := (List.range n).all fun i => decide ((slOf s i).desc.dur = (slOf t i).desc.dur)
theorem dursTo_iff {s t : List Sl} {n : Nat} : dursTo s t n = true ↔ ∀ i, i < n → (slOf s i).desc.dur = (slOf t i).desc.dur := by simp [dursTo]
set_option maxRecDepth 100000 in
set_option maxHeartbeats 2000000 in
theorem equalDurs_any (ao bo : Option Addr) (n ca cb : Nat) (s t : List Sl) (w : World) (hs : RdE w ao n s) (ht : RdE w bo n t) (hn : n ≤ 1048576) :
    Calls Tryz.prog 247 #[.slice ao n ca, .slice bo n cb, .func (.func 248) #[] #[]] w fun e w' => e = .returned (.bool (dursTo s t n)) ∧ Below w.heap.size w w' := by
  have HS := Lib.hid hs
  have HT := Lib.hid ht
  clear hs ht
  go_enter Tryz.func247, Tryz.ntmps247
  go_wp2_with fail
  go_loopw [17] (fun i wr => ∃ k : Nat, k ≤ n ∧ i = .int .i64 k ∧ Hid (∀ j, j < k → (slOf s j).desc.dur = (slOf t j).desc.dur) ∧ Hid (Below w.heap.size w wr) ∧ Hid (RdE wr ao n s) ∧ Hid (RdE wr bo n t)) (fun i _ => n - (intOf i).toNat)
  case atStart => exact ⟨0, Nat.zero_le _, rfl, fun j h => absurd h (by omega), Below.refl _ _, HS.out, HT.out⟩
  case round =>
    clear HS HT
    obtain ⟨k, hk, rfl, HALL, HB, HRS, HRT⟩ := hrel
    by_cases hlt : k < n
    · obtain ⟨b, off, e0, hg, hx⟩ := HRS.out.at hlt
      obtain ⟨b', off', e1, hg', hy⟩ := HRT.out.at hlt
      subst e0 e1
      have HNO := Lib.hid (fun (h : ¬ (slOf s k).desc.dur = (slOf t k).desc.dur) => (by
        rw [Bool.eq_false_iff]
        intro hc
        exact h (dursTo_iff.1 hc k hlt) : dursTo s t n = false))
      have HYES := Lib.hid (fun (h : (slOf s k).desc.dur = (slOf t k).desc.dur) j (hj : j < k + 1) => (by
        rcases Nat.lt_or_ge j k with hl | hl
        · exact HALL.out j hl
        · rw [show j = k from by omega]; exact h : (slOf s j).desc.dur = (slOf t j).desc.dur))
      generalize slOf s k = x at hx HNO HYES
      generalize slOf t k = y at hy HNO HYES
      have HC := Lib.hid (fun W => haveSame_any x y W)
      unfold slVal at HC
      obtain ⟨q0, q1, q2, q3, q4, q5, q6, q7⟩ := hx.all8
      have bal := (Below.refl wr.heap.size wr).alloc (Nat.le_refl _) (.cells #[.int .i64 x.mode, .int .i64 x.round, .int .i64 x.slot, .int .i64 x.desc.node, .int .i64 x.desc.kind, .int .i64 x.desc.size, .int .i64 x.desc.dur, .bool x.desc.chg] 65)
      have HX1 := Lib.hid (SlBk.new (T := 65) (x := x) wr)
      have HB1 := Lib.hid (below_two HB.out bal)
      have HRS1 := Lib.hid (HRS.out.below bal)
      have HRT1 := Lib.hid (HRT.out.below bal)
      have HY1 := Lib.hid (hy.below bal hg')
      clear bal HB HRS HRT hx hy HALL
      go_upto_region 6 with fail
      clear q0 q1 q2 q3 q4 q5 q6 q7
      generalize wr.alloc (.cells #[.int .i64 x.mode, .int .i64 x.round, .int .i64 x.slot, .int .i64 x.desc.node, .int .i64 x.desc.kind, .int .i64 x.desc.size, .int .i64 x.desc.dur, .bool x.desc.chg] 65) = w1 at HX1 HB1 HRS1 HRT1 HY1 ⊢
      obtain ⟨q0, q1, q2, q3, q4, q5, q6, q7⟩ := HY1.out.all8
      have bal := (Below.refl w1.heap.size w1).alloc (Nat.le_refl _) (.cells #[.int .i64 y.mode, .int .i64 y.round, .int .i64 y.slot, .int .i64 y.desc.node, .int .i64 y.desc.kind, .int .i64 y.desc.size, .int .i64 y.desc.dur, .bool y.desc.chg] 65)
      have HX2 := Lib.hid (HX1.out.below bal HX1.out.lt)
      have HY2 := Lib.hid (SlBk.new (T := 65) (x := y) w1)
      have HB2 := Lib.hid (below_two HB1.out bal)
      have HRS2 := Lib.hid (HRS1.out.below bal)
      have HRT2 := Lib.hid (HRT1.out.below bal)
      clear bal HB1 HRS1 HRT1 HX1 HY1
      go_upto_region 7 with fail
      clear q0 q1 q2 q3 q4 q5 q6 q7
      generalize w1.alloc (.cells #[.int .i64 y.mode, .int .i64 y.round, .int .i64 y.slot, .int .i64 y.desc.node, .int .i64 y.desc.kind, .int .i64 y.desc.size, .int .i64 y.desc.dur, .bool y.desc.chg] 65) = w2 at HX2 HY2 HB2 HRS2 HRT2 ⊢
      obtain ⟨q0, q1, q2, q3, q4, q5, q6, q7⟩ := HX2.out.all8
      obtain ⟨r0, r1, r2, r3, r4, r5, r6, r7⟩ := HY2.out.all8
      by_cases hd : x.desc.dur = y.desc.dur
      · rw [show decide (x.desc.dur = y.desc.dur) = true from decide_eq_true hd] at HC
        have HN := Lib.hid (HYES.out hd); clear hd HNO HYES
        go_wp2_with (go_at_call 248; (with_reducible refine (HC.out _).mono ?_); rintro e w3 ⟨rfl, b3⟩)
        clear q0 q1 q2 q3 q4 q5 q6 q7 r0 r1 r2 r3 r4 r5 r6 r7
        go_roundw
        case rel => exact ⟨k + 1, by omega, by go_num, HN, below_two HB2.out b3, HRS2.out.below b3, HRT2.out.below b3⟩
        case measure => simp [intOf]; omega
      · rw [show decide (x.desc.dur = y.desc.dur) = false from decide_eq_false hd] at HC
        have HF := Lib.hid (HNO.out hd); clear hd HNO HYES
        go_wp2_with (go_at_call 248; (with_reducible refine (HC.out _).mono ?_); rintro e w3 ⟨rfl, b3⟩)
        clear q0 q1 q2 q3 q4 q5 q6 q7 r0 r1 r2 r3 r4 r5 r6 r7
        go_ret
        rw [HF.out]
        exact ⟨rfl, below_two HB2.out b3⟩
    · have hkn : k = n := by omega
      subst hkn
      have HF := Lib.hid (dursTo_iff.2 HALL.out)
      go_wp2_with fail
      go_ret
      rw [HF.out]
      exact ⟨rfl, HB.out⟩
end

section
open Go.RowKit
theorem mdOf_me (v : Mv) (k : Nat) : mdOf v.me.modes k = (mcOf v.cs k).md := mdOf_mds v.cs k
def same7 (m : Me) (k : Nat) : Prop := ∀ r, r < (mdOf m.modes k).rounds.toNat → dursTo (inRound m.slots k 0) (inRound m.slots k r) (mdOf m.modes k).slots.toNat = true
theorem rule7_all {m : Me} (h : Full m) : rule7 m = true ↔ ∀ k, k < m.modes.length → same7 m k := by
  rw [rule7_prog h.r4 h.r3 h.r5]
  exact ⟨fun g k hk r hr => dursTo_iff.2 fun s hs => g k r s hk hr hs, fun g k r s hk hr hs => dursTo_iff.1 (g k hk r hr) s hs⟩
theorem rule7_no {m : Me} (h : Full m) {k r : Nat} (hk : k < m.modes.length) (hr : r < (mdOf m.modes k).rounds.toNat) (hd : dursTo (inRound m.slots k 0) (inRound m.slots k r) (mdOf m.modes k).slots.toNat = false) : rule7 m = false := by
  rw [Bool.eq_false_iff]
  intro hc
  have := (rule7_all h).1 hc k hk r hr
  rw [hd] at this
  cases this
set_option maxRecDepth 100000 in
set_option maxHeartbeats 4000000 in
theorem hasSame_any (v : Mv) (w : World) (hr : RdMe w v) (h : Full v.me) :
    Calls Tryz.prog 227 #[mvVal v] w fun e w' => e = .returned (.bool (rule7 v.me)) ∧ Below w.heap.size w w' := by
  have HX := Lib.hid (Bx.start (T := 28) hr)
  have HN := Lib.hid (show v.cs.length ≤ 16 from by have := (isModes_iff.1 h.r3).1.2; have e : v.me.modes.length = v.cs.length := mds_len v.cs; omega)
  have HRO := Lib.hid (fun W (hW : RdMe W v) k r hk hrr => roundOf_any v k r W hW h hk hrr)
  have HLEN := Lib.hid (fun k r (hk : k < v.cs.length) (hrr : r < (mdOf v.me.modes k).rounds.toNat) => (show (inRound v.e k r).length = (mdOf v.me.modes k).slots.toNat from round_len (m := v.me) h.r4 h.r3 h.r5 (by show k < (mds v.cs).length; rw [mds_len]; exact hk) hrr))
  have HBD := Lib.hid (fun k (hk : k < v.cs.length) => md_bounds h.r3 (show k < v.me.modes.length by show k < (mds v.cs).length; rw [mds_len]; exact hk))
  have HALL7 := Lib.hid (fun (g : ∀ k, k < v.cs.length → same7 v.me k) => (rule7_all h).2 (fun k hk => g k (by have e : v.me.modes.length = v.cs.length := mds_len v.cs; omega)))
  have HNO7 := Lib.hid (fun k r (hk : k < v.cs.length) hrr hd => rule7_no (m := v.me) (k := k) (r := r) h (by show k < (mds v.cs).length; rw [mds_len]; exact hk) hrr hd)
  have HMD := Lib.hid (mdOf_me v)
  obtain ⟨R7, hR7⟩ : ∃ R, R = rule7 v.me := ⟨_, rfl⟩
  rw [← hR7] at HALL7 HNO7 ⊢
  clear hr h hR7
  unfold mvVal at HRO ⊢
  go_enter Tryz.func227, Tryz.ntmps227
  go_upto_region 1 with fail
  generalize w.alloc (.cells #[.int .i64 v.id, .slice v.no v.n.length v.nc, .slice v.mo v.cs.length v.mc, .slice v.eo v.e.length v.ec] 28) = w1 at HX ⊢
  obtain ⟨q0, q1, q2, q3⟩ := HX.out.at_.all
  go_wp2_with fail
  clear q0 q1 q2 q3
  go_loopw [10] (fun i wr => ∃ k : Nat, k ≤ v.cs.length ∧ i = .int .i64 k ∧ Hid (∀ j, j < k → same7 v.me j) ∧ Hid (Bx 28 w wr w.heap.size v)) (fun i _ => v.cs.length - (intOf i).toNat)
  case atStart => exact ⟨0, Nat.zero_le _, rfl, fun j h => absurd h (by omega), HX.out⟩
  case round =>
    clear HX
    obtain ⟨k, hk, rfl, HALL, HX⟩ := hrel
    by_cases hlt : k < v.cs.length
    · obtain ⟨b, off, e0, hg, hx, -⟩ := HX.out.rd.rm.at hlt
      have hk20 : k ≤ 1048576 := by have := HN.out; omega
      have HRK := Lib.hid (fun W (hW : RdMe W v) r hrr => HRO.out W hW k r hlt hrr)
      have HLK := Lib.hid (fun r hrr => HLEN.out k r hlt hrr)
      have HNK := Lib.hid (fun r hrr hd => HNO7.out k r hlt hrr hd)
      have hbd := HBD.out k hlt
      have HSM := Lib.hid (show (∀ r, r < (mdOf v.me.modes k).rounds.toNat → dursTo (inRound v.e k 0) (inRound v.e k r) (mdOf v.me.modes k).slots.toNat = true) → same7 v.me k from fun g => g)
      rw [HMD.out k] at HRK HLK HNK hbd HSM
      have HYES := Lib.hid (fun (g : same7 v.me k) j (hj : j < k + 1) => (by
        rcases Nat.lt_or_ge j k with hl | hl
        · exact HALL.out j hl
        · rw [show j = k from by omega]; exact g : same7 v.me j))
      generalize mcOf v.cs k = x at hx HRK HLK HNK HSM hbd
      obtain ⟨RR, hRR⟩ : ∃ RR : Nat, x.md.rounds = (RR : Int) := ⟨x.md.rounds.toNat, by omega⟩
      obtain ⟨S, hS⟩ : ∃ S : Nat, x.md.slots.toNat = S := ⟨_, rfl⟩
      rw [hRR, Int.toNat_natCast] at HRK HLK HNK HSM
      rw [hS] at HLK HNK HSM
      have hS16 : S ≤ 16 := by omega
      have hR8 : RR ≤ 8 := by omega
      have hR1 : 0 < RR := by omega
      have HRR := Lib.hid hRR
      obtain ⟨q0, q1, q2⟩ := hx
      have HX1 := Lib.hid (McAt.new (T := 99) (c := x) wr)
      have HX2 := Lib.hid (HX.out.call ((Below.refl wr.heap.size wr).alloc (Nat.le_refl _) (.cells #[.int .i64 x.md.rounds, .int .i64 x.md.slots, .slice x.ao x.md.next.length x.cap] 99)))
      clear HX HALL hg hbd hRR hS
      rw [e0]
      clear e0
      go_upto_region 4 with fail
      clear q0 q1 q2
      generalize wr.alloc (.cells #[.int .i64 x.md.rounds, .int .i64 x.md.slots, .slice x.ao x.md.next.length x.cap] 99) = w2 at HX1 HX2 ⊢
      obtain ⟨z0, z1, z2, z3⟩ := HX2.out.at_.all
      go_wp2_with fail
      refine (HRK.out _ HX2.out.rd 0 hR1).mono ?_
      rintro e w3 ⟨fo, fc, rfl, frd, -, -, b3⟩
      rw [HLK.out 0 hR1] at frd ⊢
      have HX3 := Lib.hid (HX2.out.call b3)
      have HM3 := Lib.hid (HX1.out.below b3 HX1.out.lt)
      have HF3 := Lib.hid frd
      clear z0 z1 z2 z3 frd b3 HX2 HX1
      obtain ⟨q0, -, -⟩ := HM3.out.in_
      rw [HRR.out] at q0
      go_wp2_with fail
      clear q0
      go_loopw [20] (fun i wr => ∃ r : Nat, r ≤ RR ∧ i = .int .i64 r ∧ Hid (∀ j, j < r → dursTo (inRound v.e k 0) (inRound v.e k j) S = true) ∧ Hid (RdE wr fo S (inRound v.e k 0)) ∧ Hid (Bx 28 w wr w.heap.size v)) (fun i _ => RR - (intOf i).toNat)
      case atStart => exact ⟨0, Nat.zero_le _, rfl, fun j h => absurd h (by omega), HF3.out, HX3.out⟩
      case round =>
        clear HF3 HX3 HM3
        obtain ⟨r, hrk, rfl, HDS, HFR, HX⟩ := hrel
        by_cases hlr : r < RR
        · obtain ⟨z0, z1, z2, z3⟩ := HX.out.at_.all
          go_wp2_with fail
          refine (HRK.out _ HX.out.rd r hlr).mono ?_
          rintro e w3 ⟨so, sc, rfl, srd, -, -, b3⟩
          rw [HLK.out r hlr] at srd ⊢
          have HX3 := Lib.hid (HX.out.call b3)
          have HE := Lib.hid (equalDurs_any fo so S fc sc _ _ w3 (HFR.out.below b3) srd (by omega))
          have HF3 := Lib.hid (HFR.out.below b3)
          clear z0 z1 z2 z3 b3 HX HFR srd
          rcases hd : dursTo (inRound v.e k 0) (inRound v.e k r) S with _ | _
          · have HF := Lib.hid (HNK.out r hlr hd)
            rw [hd] at HE
            go_wp2_with fail
            refine HE.out.mono ?_
            rintro e w4 ⟨rfl, b4⟩
            go_wp2_with fail
            go_ret
            rw [HF.out]
            exact ⟨rfl, below_two HX3.out.below b4⟩
          · have HN2 := Lib.hid (fun j (hj : j < r + 1) => (by
              rcases Nat.lt_or_ge j r with hl | hl
              · exact HDS.out j hl
              · rw [show j = r from by omega]; exact hd : dursTo (inRound v.e k 0) (inRound v.e k j) S = true))
            rw [hd] at HE
            clear hd
            go_wp2_with fail
            refine HE.out.mono ?_
            rintro e w4 ⟨rfl, b4⟩
            go_wp2_with fail
            go_roundw
            case rel => exact ⟨r + 1, by omega, by go_num, HN2, HF3.out.below b4, HX3.out.call b4⟩
            case measure => simp [intOf]; omega
        · have hrn : r = RR := by omega
          subst hrn
          have HN2 := Lib.hid (HYES.out (HSM.out HDS.out))
          clear HDS HYES HSM
          go_wp2_with fail
          go_roundw
          case rel => exact ⟨k + 1, by omega, by go_num, HN2, HX.out⟩
          case measure => simp [intOf]; omega
    · have hkn : k = v.cs.length := by omega
      have HF := Lib.hid (HALL7.out (fun j hj => HALL.out j (by omega)))
      subst hkn
      go_wp2_with fail
      go_ret
      rw [HF.out]
      exact ⟨rfl, HX.out.below⟩
set_option maxRecDepth 100000 in
set_option maxHeartbeats 4000000 in
theorem hasShort_any (v : Mv) (w : World) (hr : RdMe w v) (h : Full v.me) :
    Calls Tryz.prog 228 #[mvVal v] w fun e w' => e = .returned (.bool (rule8 v.me)) ∧ Below w.heap.size w w' := by
  have HX := Lib.hid (Bx.start (T := 28) hr)
  have HN := Lib.hid (show v.cs.length ≤ 16 from by have := (isModes_iff.1 h.r3).1.2; have e : v.me.modes.length = v.cs.length := mds_len v.cs; omega)
  have HCY := Lib.hid (fun W (hW : RdMe W v) k hk => cycleOf_any v k W hW h hk)
  have HSU := Lib.hid (fun k => dursum_mode h.r4 k)
  have HML := Lib.hid (fun k => (Nat.le_trans (inMode_le v.e k) (Nat.le_trans (isSls_iff.1 h.r4).1 (by omega)) : (inMode v.e k).length ≤ 1048576))
  have HDU := Lib.hid (fun k x (hx : x ∈ inMode v.e k) => sl_dur h.r4 (inMode_sub hx))
  obtain ⟨R8, hR8⟩ : ∃ R, R = rule8 v.me := ⟨_, rfl⟩
  have HR8 := Lib.hid (show R8 = (List.range v.cs.length).all (fun k => decide (dursum (inMode v.e k) ≤ 32000)) from by rw [hR8]; unfold rule8; rw [show v.me.modes.length = v.cs.length from mds_len v.cs]; rfl)
  rw [← hR8]
  clear hr h hR8
  unfold mvVal at HCY ⊢
  go_enter Tryz.func228, Tryz.ntmps228
  go_upto_region 1 with fail
  generalize w.alloc (.cells #[.int .i64 v.id, .slice v.no v.n.length v.nc, .slice v.mo v.cs.length v.mc, .slice v.eo v.e.length v.ec] 28) = w1 at HX ⊢
  obtain ⟨q0, q1, q2, q3⟩ := HX.out.at_.all
  go_wp2_with fail
  clear q0 q1 q2 q3
  go_loopw [7] (fun i wr => ∃ k : Nat, k ≤ v.cs.length ∧ i = .int .i64 k ∧ Hid (∀ j, j < k → dursum (inMode v.e j) ≤ 32000) ∧ Hid (Bx 28 w wr w.heap.size v)) (fun i _ => v.cs.length - (intOf i).toNat)
  case atStart => exact ⟨0, Nat.zero_le _, rfl, fun j h => absurd h (by omega), HX.out⟩
  case round =>
    clear HX
    obtain ⟨k, hk, rfl, HALL, HX⟩ := hrel
    by_cases hlt : k < v.cs.length
    · have hk20 : k ≤ 1048576 := by have := HN.out; omega
      have HNO := Lib.hid (fun (g : ¬ dursum (inMode v.e k) ≤ 32000) => (by
        rw [HR8.out, Bool.eq_false_iff]
        intro hc
        have := List.all_eq_true.1 hc k (List.mem_range.2 hlt)
        exact g (of_decide_eq_true this) : R8 = false))
      have HYES := Lib.hid (fun (g : dursum (inMode v.e k) ≤ 32000) j (hj : j < k + 1) => (by
        rcases Nat.lt_or_ge j k with hl | hl
        · exact HALL.out j hl
        · rw [show j = k from by omega]; exact g : dursum (inMode v.e j) ≤ 32000))
      have hsu := HSU.out k
      change 0 ≤ dursum (inMode v.e k) ∧ dursum (inMode v.e k) ≤ 120000 at hsu
      have HTM := Lib.hid (fun ao n c W (hW : RdE W ao n (inMode v.e k)) (hn : n ≤ 1048576) => timeOf_any ao n c (inMode v.e k) W hW hn (HDU.out k))
      have HMK := Lib.hid (HML.out k)
      have HCK := Lib.hid (fun W hW => HCY.out W hW k hlt)
      generalize inMode v.e k = t at HNO HYES hsu HTM HCK HMK
      obtain ⟨z, hz⟩ : ∃ z, z = dursum t := ⟨_, rfl⟩
      rw [← hz] at HNO HYES hsu HTM
      clear HALL hz
      obtain ⟨z0, z1, z2, z3⟩ := HX.out.at_.all
      go_wp2_with fail
      refine (HCK.out _ HX.out.rd).mono ?_
      rintro e w3 ⟨so, sc, rfl, srd, -, -, b3⟩
      have HX3 := Lib.hid (HX.out.call b3)
      have HT := Lib.hid (HTM.out so t.length sc w3 srd HMK.out)
      clear z0 z1 z2 z3 b3 HX srd
      go_wp2_with fail
      refine HT.out.mono ?_
      rintro e w4 ⟨rfl, b4⟩
      have HX4 := Lib.hid (HX3.out.call b4)
      clear b4 HX3 HT
      by_cases hc : z ≤ 32000
      · have hg : ¬ z > 32000 := by omega
        have HN2 := Lib.hid (HYES.out hc)
        clear hc HYES HNO
        go_wp2_with fail
        go_roundw
        case rel => exact ⟨k + 1, by omega, by go_num, HN2, HX4.out⟩
        case measure => simp [intOf]; omega
      · have hg : z > 32000 := by omega
        have HF := Lib.hid (HNO.out (by omega))
        clear hc HYES HNO
        go_wp2_with fail
        go_ret
        rw [HF.out]
        exact ⟨rfl, HX4.out.below⟩
    · have hkn : k = v.cs.length := by omega
      have HF := Lib.hid (show R8 = true from by rw [HR8.out, List.all_eq_true]; intro j hj; exact decide_eq_true (HALL.out j (by have := List.mem_range.1 hj; omega)))
      subst hkn
      go_wp2_with fail
      go_ret
      rw [HF.out]
      exact ⟨rfl, HX.out.below⟩
theorem rule9_all {m : Me} : rule9 m = true ↔ ∀ k, k < m.modes.length → ∀ r, r < (mdOf m.modes k).rounds.toNat → vecOfSl (inRound m.slots k r) = actv m := by
  simp [rule9, servedRound]
set_option maxRecDepth 100000 in
set_option maxHeartbeats 4000000 in
theorem letsAll_any (v : Mv) (w : World) (hr : RdMe w v) (h2 : isTable v.n = true) (h : Full v.me) :
    Calls Tryz.prog 229 #[mvVal v] w fun e w' => e = .returned (.bool (rule9 v.me)) ∧ Below w.heap.size w w' := by
  have HX := Lib.hid (Bx.start (T := 28) hr)
  have HN := Lib.hid (show v.cs.length ≤ 16 from by have := (isModes_iff.1 h.r3).1.2; have e : v.me.modes.length = v.cs.length := mds_len v.cs; omega)
  have HAC := Lib.hid (fun W (hW : RdMe W v) => activeNodes_any v W hW h2)
  have HRO := Lib.hid (fun W (hW : RdMe W v) k r hk hrr => roundOf_any v k r W hW h hk hrr)
  have HBD := Lib.hid (fun k (hk : k < v.cs.length) => md_bounds h.r3 (show k < v.me.modes.length by show k < (mds v.cs).length; rw [mds_len]; exact hk))
  have HSD := Lib.hid (fun k r x (hx : x ∈ inRound v.e k r) => sl_node h.r4 (inRound_sub hx))
  have HML := Lib.hid (fun k r => (Nat.le_trans (inRound_le v.e k r) (Nat.le_trans (isSls_iff.1 h.r4).1 (by omega)) : (inRound v.e k r).length ≤ 1048576))
  have HMD := Lib.hid (mdOf_me v)
  obtain ⟨R9, hR9⟩ : ∃ R, R = rule9 v.me := ⟨_, rfl⟩
  have HR9 := Lib.hid (show R9 = true ↔ ∀ k, k < v.cs.length → ∀ r, r < (mcOf v.cs k).md.rounds.toNat → vecOfSl (inRound v.e k r) = actv v.me from by
    rw [hR9, rule9_all, show v.me.modes.length = v.cs.length from mds_len v.cs]
    constructor
    · intro g k hk r hrr
      exact g k hk r (by rw [HMD.out k]; exact hrr)
    · intro g k hk r hrr
      exact g k hk r (by rw [← HMD.out k]; exact hrr))
  rw [← hR9]
  clear hr h hR9 h2
  generalize actv v.me = A at HAC HR9
  unfold mvVal at HRO HAC ⊢
  go_enter Tryz.func229, Tryz.ntmps229
  go_upto_region 1 with fail
  generalize w.alloc (.cells #[.int .i64 v.id, .slice v.no v.n.length v.nc, .slice v.mo v.cs.length v.mc, .slice v.eo v.e.length v.ec] 28) = w1 at HX ⊢
  obtain ⟨q0, q1, q2, q3⟩ := HX.out.at_.all
  go_wp2_with fail
  refine (HAC.out _ HX.out.rd).mono ?_
  rintro e w2 ⟨rfl, b2⟩
  have HX2 := Lib.hid (HX.out.call b2)
  clear q0 q1 q2 q3 b2 HX
  obtain ⟨q0, q1, q2, q3⟩ := HX2.out.at_.all
  go_wp2_with fail
  clear q0 q1 q2 q3
  go_loopw [12] (fun i wr => ∃ k : Nat, k ≤ v.cs.length ∧ i = .int .i64 k ∧ Hid (∀ j, j < k → ∀ r, r < (mcOf v.cs j).md.rounds.toNat → vecOfSl (inRound v.e j r) = A) ∧ Hid (Bx 28 w wr w.heap.size v)) (fun i _ => v.cs.length - (intOf i).toNat)
  case atStart => exact ⟨0, Nat.zero_le _, rfl, fun j h => absurd h (by omega), HX2.out⟩
  case round =>
    clear HX2
    obtain ⟨k, hk, rfl, HALL, HX⟩ := hrel
    by_cases hlt : k < v.cs.length
    · obtain ⟨b, off, e0, hg, hx, -⟩ := HX.out.rd.rm.at hlt
      have hk20 : k ≤ 1048576 := by have := HN.out; omega
      have HRK := Lib.hid (fun W (hW : RdMe W v) r hrr => HRO.out W hW k r hlt hrr)
      have hbd := HBD.out k hlt
      rw [HMD.out k] at HRK hbd
      have HNO := Lib.hid (fun r (hrr : r < (mcOf v.cs k).md.rounds.toNat) (g : ¬ vecOfSl (inRound v.e k r) = A) => (by
        rw [Bool.eq_false_iff]
        intro hc
        exact g (HR9.out.1 hc k hlt r hrr) : R9 = false))
      have HYES := Lib.hid (fun (g : ∀ r, r < (mcOf v.cs k).md.rounds.toNat → vecOfSl (inRound v.e k r) = A) j (hj : j < k + 1) => (by
        rcases Nat.lt_or_ge j k with hl | hl
        · exact HALL.out j hl
        · rw [show j = k from by omega]; exact g : ∀ r, r < (mcOf v.cs j).md.rounds.toNat → vecOfSl (inRound v.e j r) = A))
      generalize hxe : mcOf v.cs k = x at hx HRK HNO hbd
      rw [hxe] at HYES
      obtain ⟨RR, hRR⟩ : ∃ RR : Nat, x.md.rounds = (RR : Int) := ⟨x.md.rounds.toNat, by omega⟩
      rw [hRR, Int.toNat_natCast] at HRK HNO HYES
      have hR8 : RR ≤ 8 := by omega
      have HRR := Lib.hid hRR
      obtain ⟨q0, q1, q2⟩ := hx
      have HX1 := Lib.hid (McAt.new (T := 99) (c := x) wr)
      have HX2 := Lib.hid (HX.out.call ((Below.refl wr.heap.size wr).alloc (Nat.le_refl _) (.cells #[.int .i64 x.md.rounds, .int .i64 x.md.slots, .slice x.ao x.md.next.length x.cap] 99)))
      clear HX HALL hg hbd hRR hxe
      rw [e0]
      clear e0
      go_upto_region 5 with fail
      clear q0 q1 q2
      generalize wr.alloc (.cells #[.int .i64 x.md.rounds, .int .i64 x.md.slots, .slice x.ao x.md.next.length x.cap] 99) = w2 at HX1 HX2 ⊢
      obtain ⟨q0, -, -⟩ := HX1.out.in_
      rw [HRR.out] at q0
      go_wp2_with fail
      clear q0 HX1
      go_loopw [19] (fun i wr => ∃ r : Nat, r ≤ RR ∧ i = .int .i64 r ∧ Hid (∀ j, j < r → vecOfSl (inRound v.e k j) = A) ∧ Hid (Bx 28 w wr w.heap.size v)) (fun i _ => RR - (intOf i).toNat)
      case atStart => exact ⟨0, Nat.zero_le _, rfl, fun j h => absurd h (by omega), HX2.out⟩
      case round =>
        clear HX2
        obtain ⟨r, hrk, rfl, HDS, HX⟩ := hrel
        by_cases hlr : r < RR
        · have HSK := Lib.hid (fun ao n c W (hW : RdE W ao n (inRound v.e k r)) (hn : n ≤ 1048576) => sendersIn_any ao n c (inRound v.e k r) W hW hn (HSD.out k r))
          have HMK := Lib.hid (HML.out k r)
          have HCK := Lib.hid (fun W hW => HRK.out W hW r hlr)
          have HNK := Lib.hid (HNO.out r hlr)
          have HYK := Lib.hid (fun (g : vecOfSl (inRound v.e k r) = A) j (hj : j < r + 1) => (by
            rcases Nat.lt_or_ge j r with hl | hl
            · exact HDS.out j hl
            · rw [show j = r from by omega]; exact g : vecOfSl (inRound v.e k j) = A))
          generalize inRound v.e k r = t at HSK HMK HCK HNK HYK
          generalize vecOfSl t = z at HSK HNK HYK
          obtain ⟨z0, z1, z2, z3⟩ := HX.out.at_.all
          go_wp2_with fail
          refine (HCK.out _ HX.out.rd).mono ?_
          rintro e w3 ⟨so, sc, rfl, srd, -, -, b3⟩
          have HX3 := Lib.hid (HX.out.call b3)
          have HT := Lib.hid (HSK.out so t.length sc w3 srd HMK.out)
          clear z0 z1 z2 z3 b3 HX srd
          go_wp2_with fail
          refine HT.out.mono ?_
          rintro e w4 ⟨rfl, b4⟩
          have HX4 := Lib.hid (HX3.out.call b4)
          clear b4 HX3 HT
          by_cases hc : z = A
          · have hb : ((z : Int) != (A : Int)) = false := by simp [hc]
            have HN2 := Lib.hid (HYK.out hc)
            clear hc HYK HNK
            go_wp2_with fail
            go_roundw
            case rel => exact ⟨r + 1, by omega, by go_num, HN2, HX4.out⟩
            case measure => simp [intOf]; omega
          · have hb : ((z : Int) != (A : Int)) = true := by simp; omega
            have HF := Lib.hid (HNK.out hc)
            clear hc HYK HNK
            go_wp2_with fail
            go_ret
            rw [HF.out]
            exact ⟨rfl, HX4.out.below⟩
        · have hrn : r = RR := by omega
          subst hrn
          have HN2 := Lib.hid (HYES.out HDS.out)
          clear HDS HYES
          go_wp2_with fail
          go_roundw
          case rel => exact ⟨k + 1, by omega, by go_num, HN2, HX.out⟩
          case measure => simp [intOf]; omega
    · have hkn : k = v.cs.length := by omega
      have HF := Lib.hid (HR9.out.2 (fun j hj => HALL.out j (by omega)))
      subst hkn
      go_wp2_with fail
      go_ret
      rw [HF.out]
      exact ⟨rfl, HX.out.below⟩
end

section
open Go.RowKit Go.Maps
def heldElem (v : Value) : Option (DataW Value × List MemPlace) := some (.held v, [])
def wf64 (k : Int) : Prop := -9223372036854775808 ≤ k ∧ k ≤ 9223372036854775807
def FunMap (P : Program) (K : Nat) (w : World) (b n : Nat) (f : Int → Option Value) : Prop :=
  ∃ D : DataW Value, w.ownsMap P K heldElem b n D ∧ (Maps.size D = n ∧ ∀ x : Int, Maps.has D (.int .i64 x) = (f x).isSome) ∧ ∀ x : Int, ∀ y, f x = some y → ∀ z : Value, D.atKey (.int .i64 x) (.held z) = .held y
section
variable {P : Program} {K : Nat} {w w' : World} {b n : Nat} {f : Int → Option Value}
theorem funMap_made (w : World) : FunMap P K (w.alloc (.map #[] 0)) w.heap.size 0 (fun _ => none) :=
  ⟨_, World.ownsMap_made w P K _, ⟨rfl, fun x => rfl⟩, fun x y h => by cases h⟩
theorem FunMap.kept {row : Option Nat} (h : FunMap P K w b n f) (hg : w.grownBy w' row) (hne : some b ≠ row) : FunMap P K w' b n f := by
  obtain ⟨D, h1, h2⟩ := h
  exact ⟨D, h1.kept hg hne, h2⟩
theorem FunMap.below (h : FunMap P K w b n f) (hb : Below w.heap.size w w') : FunMap P K w' b n f := h.kept (row := none) ⟨hb.os, hb.tape, hb.output, hb.size, fun i hi _ => hb.block i hi⟩ (by simp)
theorem FunMap.lt (h : FunMap P K w b n f) : b < w.heap.size := by obtain ⟨D, h1, _⟩ := h; exact h1.lt
theorem FunMap.more (h : FunMap P K w b n f) {f' : Int → Option Value} (hf : ∀ x, f' x = f x) : FunMap P K w b n f' := by
  have e : f' = f := funext hf
  rw [e]; exact h
end
theorem run_makeMap_lit {P : Program} {T : Nat} (w : World) : (Instr.makeMap T none).run P w = .ok (.map (some w.heap.size)) (w.alloc (.map #[] 0)) := by
  simp [Instr.makeMap, Result.andThen]
section
variable {P : Program} {K E T : Nat} (w : World) {ops : Array Oper} {rest : List Oper} {o : Oper} {a : Act} {Q : Exit → Act → World → Prop} {KK : Act → World → Prop}
theorem lookF_op (m x : Operand) (hop : o.op = Op.lookup T m x false) (hK : P.underlying K = some (.int .i64)) (ht : P.underlying T = some (.map K E)) {zv : Value} (hz : (zeroValue E).run P w = .ok zv w)
    (b n : Nat) (f : Int → Option Value) (hm : a.eval m = .map (some b)) (hown : FunMap P K w b n f) (k : Int) (y : Value) (hx : a.eval x = .int .i64 k) (hwf : wf64 k) (hf : f k = some y)
    (h : KK (a.put o.dst y) w) : o.wp P a w KK Q := by
  obtain ⟨D, h1, -, h2⟩ := hown
  obtain ⟨es, clock, hb, F, _, rfl⟩ := h1
  have hv := h2 k y hf
  have hrun : (Instr.lookup T (.map (some b)) (.int .i64 k) false).run P w = .ok y w := by
    rcases Maps.fit_look false (int_keyed hK) ht hz hb F (keyOf_int_mk hK (WalkArith.wf_i64 hwf)) with ⟨_, _, hat⟩ | ⟨e0, y0, _, _, hrun, hRv, hat, _⟩
    · have h3 := (hv (.int .i64 0)).symm.trans (hat (.held (.int .i64 0)))
      have h4 := (hv (.int .i64 1)).symm.trans (hat (.held (.int .i64 1)))
      rw [h3] at h4
      injection h4 with h4
      injection h4 with h5 h6
      cases h6
    · have h3 := hat (.held y)
      rw [hv] at h3
      unfold heldElem at hRv
      have e := congrArg Prod.fst (Option.some.inj hRv)
      rw [← h3] at e
      injection e with e
      rw [if_neg (by simp)] at hrun
      rw [hrun, e]
  unfold Oper.wp
  simp [execOp, hop, hm, hx, hrun, Result.andThen]
  exact h
theorem lookF (hgd : o.guard = none) (m x : Operand) (hop : o.op = Op.lookup T m x false) (hK : P.underlying K = some (.int .i64)) (ht : P.underlying T = some (.map K E)) {zv : Value} (hz : (zeroValue E).run P w = .ok zv w)
    (b n : Nat) (f : Int → Option Value) (hm : a.eval m = .map (some b)) (hown : FunMap P K w b n f) (k : Int) (y : Value) (hx : a.eval x = .int .i64 k) (hwf : wf64 k) (hf : f k = some y)
    (h : wpList P ops Q rest (a.put o.dst y) w) : wpList P ops Q (o :: rest) a w :=
  wpList_plain hgd fun _ hK2 => lookF_op w m x hop hK ht hz b n f hm hown k y hx hwf hf (hK2 _ _ h)
theorem insert_run (hK : P.underlying K = some (.int .i64)) (ht : P.underlying T = some (.map K E)) {b n : Nat} {f : Int → Option Value} (hown : FunMap P K w b n f) (hn : n ≤ 4294967296) (k : Int) (y : Value) (hwf : wf64 k) (hfk : f k = none) :
    ∃ w', (Instr.mapUpdate T (.map (some b)) (.int .i64 k) y).run P w = .ok () w' ∧ FunMap P K w' b (n + 1) (fun z => if z = k then some y else f z) ∧ w.grownBy w' (some b) := by
  obtain ⟨D, h1, ⟨hsz, hhas⟩, h2⟩ := hown
  obtain ⟨w1, hrun, h3, h4⟩ := h1.store (int_keyed hK) ht (by unfold maxLen; omega) (keyOf_int_mk hK (WalkArith.wf_i64 hwf)) (show heldElem y = some (.held y, []) from rfl)
  refine ⟨w1, hrun, ⟨_, h3, ⟨?_, fun z => ?_⟩, fun z y' hy' zz => ?_⟩, h4.grown⟩
  · rw [size_put (h1.tidy (int_keyed hK)), hhas k, hfk, hsz]; rfl
  · by_cases e : z = k
    · subst e
      rw [has_put_same h1.isMap (by trivial)]; simp
    · have hne : (Lit.int .i64 z) ≠ (Lit.int .i64 k) := by simpa using e
      rw [has_put_other hne, hhas z]; simp [e]
  by_cases e : z = k
  · subst e
    rw [atKey_put_same h1.isMap (by trivial)]
    have : y = y' := by simpa using hy'
    rw [this]
  · have hy' : f z = some y' := by simpa [e] using hy'
    have hne : (Lit.int .i64 z) ≠ (Lit.int .i64 k) := by simpa using e
    rw [atKey_put_other hne]
    exact h2 z y' hy' zz
theorem lenF (hgd : o.guard = none) (m : Operand) (hop : o.op = Op.call { callee := Callee.builtin Builtin.len, args := #[m], argTypes := #[T] }) (ht : P.underlying T = some (.map K E))
    (b n : Nat) (f : Int → Option Value) (hm : a.eval m = .map (some b)) (hown : FunMap P K w b n f) (h : wpList P ops Q rest (a.put o.dst (.int .i64 (n : Int))) w) : wpList P ops Q (o :: rest) a w := by
  obtain ⟨D, h1, ⟨hsz, -⟩, -⟩ := hown
  refine wpList_len_own w hgd m T hop K E ht heldElem b n D hm h1 ?_
  rw [hsz]; exact h
end
end

section
open Go.RowKit Go.Maps
def ruleF (k : Int) : Option Value :=
  if k = 1 then some (.func (.func 219) #[] #[])
  else if k = 2 then some (.func (.func 221) #[] #[])
  else if k = 3 then some (.func (.func 222) #[] #[])
  else if k = 4 then some (.func (.func 223) #[] #[])
  else if k = 5 then some (.func (.func 225) #[] #[])
  else if k = 6 then some (.func (.func 226) #[] #[])
  else if k = 7 then some (.func (.func 227) #[] #[])
  else if k = 8 then some (.func (.func 228) #[] #[])
  else if k = 9 then some (.func (.func 229) #[] #[])
  else if k = 10 then some (.func (.func 230) #[] #[])
  else none
theorem below_map (w : World) : Below w.heap.size w (w.alloc (.map #[] 0)) := (Below.refl _ _).alloc (Nat.le_refl _) _
theorem ruleF_of (x : Int) : ruleF x = (if x = 10 then some (Value.func (.func 230) #[] #[]) else (if x = 9 then some (Value.func (.func 229) #[] #[]) else (if x = 8 then some (Value.func (.func 228) #[] #[]) else (if x = 7 then some (Value.func (.func 227) #[] #[]) else (if x = 6 then some (Value.func (.func 226) #[] #[]) else (if x = 5 then some (Value.func (.func 225) #[] #[]) else (if x = 4 then some (Value.func (.func 223) #[] #[]) else (if x = 3 then some (Value.func (.func 222) #[] #[]) else (if x = 2 then some (Value.func (.func 221) #[] #[]) else (if x = 1 then some (Value.func (.func 219) #[] #[]) else none)))))))))) := by
  unfold ruleF
  by_cases h1 : x = 1
  · subst h1; rfl
  by_cases h2 : x = 2
  · subst h2; rfl
  by_cases h3 : x = 3
  · subst h3; rfl
  by_cases h4 : x = 4
  · subst h4; rfl
  by_cases h5 : x = 5
  · subst h5; rfl
  by_cases h6 : x = 6
  · subst h6; rfl
  by_cases h7 : x = 7
  · subst h7; rfl
  by_cases h8 : x = 8
  · subst h8; rfl
  by_cases h9 : x = 9
  · subst h9; rfl
  by_cases h10 : x = 10
  · subst h10; rfl
  simp [h1, h2, h3, h4, h5, h6, h7, h8, h9, h10]
set_option maxRecDepth 100000 in
set_option maxHeartbeats 2000000 in
theorem medlRules_any (w : World) : Calls Tryz.prog 202 #[] w fun e w' => ∃ b, e = .returned (.map (some b)) ∧ FunMap Tryz.prog 2 w' b 10 ruleF ∧ Below w.heap.size w w' := by
  have HM0 := Lib.hid (funMap_made (P := Tryz.prog) (K := 2) w)
  have HB0 := Lib.hid (below_map w)
  have hmk := run_makeMap_lit (P := Tryz.prog) (T := 230) w
  obtain ⟨w1, e1, m1, g1⟩ := insert_run _ Tryz.underlying2 Tryz.underlying230 HM0.out (by omega) 1 (.func (.func 219) #[] #[]) ⟨by omega, by omega⟩ (by decide)
  have HM1 := Lib.hid m1; have HB1 := Lib.hid (HB0.out.grown g1 HB0.out.size (by intro k hk; cases hk; exact Nat.le_refl _)); clear m1 g1
  obtain ⟨w2, e2, m2, g2⟩ := insert_run _ Tryz.underlying2 Tryz.underlying230 HM1.out (by omega) 2 (.func (.func 221) #[] #[]) ⟨by omega, by omega⟩ (by decide)
  have HM2 := Lib.hid m2; have HB2 := Lib.hid (HB1.out.grown g2 HB1.out.size (by intro k hk; cases hk; exact Nat.le_refl _)); clear m2 g2
  obtain ⟨w3, e3, m3, g3⟩ := insert_run _ Tryz.underlying2 Tryz.underlying230 HM2.out (by omega) 3 (.func (.func 222) #[] #[]) ⟨by omega, by omega⟩ (by decide)
  have HM3 := Lib.hid m3; have HB3 := Lib.hid (HB2.out.grown g3 HB2.out.size (by intro k hk; cases hk; exact Nat.le_refl _)); clear m3 g3
  obtain ⟨w4, e4, m4, g4⟩ := insert_run _ Tryz.underlying2 Tryz.underlying230 HM3.out (by omega) 4 (.func (.func 223) #[] #[]) ⟨by omega, by omega⟩ (by decide)
  have HM4 := Lib.hid m4; have HB4 := Lib.hid (HB3.out.grown g4 HB3.out.size (by intro k hk; cases hk; exact Nat.le_refl _)); clear m4 g4
  obtain ⟨w5, e5, m5, g5⟩ := insert_run _ Tryz.underlying2 Tryz.underlying230 HM4.out (by omega) 5 (.func (.func 225) #[] #[]) ⟨by omega, by omega⟩ (by decide)
  have HM5 := Lib.hid m5; have HB5 := Lib.hid (HB4.out.grown g5 HB4.out.size (by intro k hk; cases hk; exact Nat.le_refl _)); clear m5 g5
  obtain ⟨w6, e6, m6, g6⟩ := insert_run _ Tryz.underlying2 Tryz.underlying230 HM5.out (by omega) 6 (.func (.func 226) #[] #[]) ⟨by omega, by omega⟩ (by decide)
  have HM6 := Lib.hid m6; have HB6 := Lib.hid (HB5.out.grown g6 HB5.out.size (by intro k hk; cases hk; exact Nat.le_refl _)); clear m6 g6
  obtain ⟨w7, e7, m7, g7⟩ := insert_run _ Tryz.underlying2 Tryz.underlying230 HM6.out (by omega) 7 (.func (.func 227) #[] #[]) ⟨by omega, by omega⟩ (by decide)
  have HM7 := Lib.hid m7; have HB7 := Lib.hid (HB6.out.grown g7 HB6.out.size (by intro k hk; cases hk; exact Nat.le_refl _)); clear m7 g7
  obtain ⟨w8, e8, m8, g8⟩ := insert_run _ Tryz.underlying2 Tryz.underlying230 HM7.out (by omega) 8 (.func (.func 228) #[] #[]) ⟨by omega, by omega⟩ (by decide)
  have HM8 := Lib.hid m8; have HB8 := Lib.hid (HB7.out.grown g8 HB7.out.size (by intro k hk; cases hk; exact Nat.le_refl _)); clear m8 g8
  obtain ⟨w9, e9, m9, g9⟩ := insert_run _ Tryz.underlying2 Tryz.underlying230 HM8.out (by omega) 9 (.func (.func 229) #[] #[]) ⟨by omega, by omega⟩ (by decide)
  have HM9 := Lib.hid m9; have HB9 := Lib.hid (HB8.out.grown g9 HB8.out.size (by intro k hk; cases hk; exact Nat.le_refl _)); clear m9 g9
  obtain ⟨w10, e10, m10, g10⟩ := insert_run _ Tryz.underlying2 Tryz.underlying230 HM9.out (by omega) 10 (.func (.func 230) #[] #[]) ⟨by omega, by omega⟩ (by decide)
  have HM10 := Lib.hid m10; have HB10 := Lib.hid (HB9.out.grown g10 HB9.out.size (by intro k hk; cases hk; exact Nat.le_refl _)); clear m10 g10
  go_enter Tryz.func202, Tryz.ntmps202
  go_wp2_with fail
  go_ret
  exact ⟨_, rfl, HM10.out.more ruleF_of, HB10.out⟩
end

section
def ruleN (m : Me) : Nat → Bool
  | 1 => inRange 1 16777215 m.id
  | 2 => isTable m.nodes
  | 3 => isModes m.modes
  | 4 => isSls m.slots
  | 5 => rule5 m
  | 6 => rule6 m
  | 7 => rule7 m
  | 8 => rule8 m
  | 9 => rule9 m
  | 10 => rule10 m
  | _ => true
theorem fault_at {m : Me} {k : Nat} (hk : 1 ≤ k) (hk2 : k ≤ 10) (H : ∀ j, 1 ≤ j → j < k → ruleN m j = true) (h : ruleN m k = false) : firstFault m = (k : Int) := by
  have hc : k = 1 ∨ k = 2 ∨ k = 3 ∨ k = 4 ∨ k = 5 ∨ k = 6 ∨ k = 7 ∨ k = 8 ∨ k = 9 ∨ k = 10 := by omega
  rcases hc with rfl | rfl | rfl | rfl | rfl | rfl | rfl | rfl | rfl | rfl
  · have g : inRange 1 16777215 m.id = false := h
    simp [firstFault, g]
  · have h1 : inRange 1 16777215 m.id = true := H 1 (by omega) (by omega)
    have g : isTable m.nodes = false := h
    simp [firstFault, h1, g]
  · have h1 : inRange 1 16777215 m.id = true := H 1 (by omega) (by omega)
    have h2 : isTable m.nodes = true := H 2 (by omega) (by omega)
    have g : isModes m.modes = false := h
    simp [firstFault, h1, h2, g]
  · have h1 : inRange 1 16777215 m.id = true := H 1 (by omega) (by omega)
    have h2 : isTable m.nodes = true := H 2 (by omega) (by omega)
    have h3 : isModes m.modes = true := H 3 (by omega) (by omega)
    have g : isSls m.slots = false := h
    simp [firstFault, h1, h2, h3, g]
  · have h1 : inRange 1 16777215 m.id = true := H 1 (by omega) (by omega)
    have h2 : isTable m.nodes = true := H 2 (by omega) (by omega)
    have h3 : isModes m.modes = true := H 3 (by omega) (by omega)
    have h4 : isSls m.slots = true := H 4 (by omega) (by omega)
    have g : rule5 m = false := h
    simp [firstFault, h1, h2, h3, h4, g]
  · have h1 : inRange 1 16777215 m.id = true := H 1 (by omega) (by omega)
    have h2 : isTable m.nodes = true := H 2 (by omega) (by omega)
    have h3 : isModes m.modes = true := H 3 (by omega) (by omega)
    have h4 : isSls m.slots = true := H 4 (by omega) (by omega)
    have h5 : rule5 m = true := H 5 (by omega) (by omega)
    have g : rule6 m = false := h
    simp [firstFault, h1, h2, h3, h4, h5, g]
  · have h1 : inRange 1 16777215 m.id = true := H 1 (by omega) (by omega)
    have h2 : isTable m.nodes = true := H 2 (by omega) (by omega)
    have h3 : isModes m.modes = true := H 3 (by omega) (by omega)
    have h4 : isSls m.slots = true := H 4 (by omega) (by omega)
    have h5 : rule5 m = true := H 5 (by omega) (by omega)
    have h6 : rule6 m = true := H 6 (by omega) (by omega)
    have g : rule7 m = false := h
    simp [firstFault, h1, h2, h3, h4, h5, h6, g]
  · have h1 : inRange 1 16777215 m.id = true := H 1 (by omega) (by omega)
    have h2 : isTable m.nodes = true := H 2 (by omega) (by omega)
    have h3 : isModes m.modes = true := H 3 (by omega) (by omega)
    have h4 : isSls m.slots = true := H 4 (by omega) (by omega)
    have h5 : rule5 m = true := H 5 (by omega) (by omega)
    have h6 : rule6 m = true := H 6 (by omega) (by omega)
    have h7 : rule7 m = true := H 7 (by omega) (by omega)
    have g : rule8 m = false := h
    simp [firstFault, h1, h2, h3, h4, h5, h6, h7, g]
  · have h1 : inRange 1 16777215 m.id = true := H 1 (by omega) (by omega)
    have h2 : isTable m.nodes = true := H 2 (by omega) (by omega)
    have h3 : isModes m.modes = true := H 3 (by omega) (by omega)
    have h4 : isSls m.slots = true := H 4 (by omega) (by omega)
    have h5 : rule5 m = true := H 5 (by omega) (by omega)
    have h6 : rule6 m = true := H 6 (by omega) (by omega)
    have h7 : rule7 m = true := H 7 (by omega) (by omega)
    have h8 : rule8 m = true := H 8 (by omega) (by omega)
    have g : rule9 m = false := h
    simp [firstFault, h1, h2, h3, h4, h5, h6, h7, h8, g]
  · have h1 : inRange 1 16777215 m.id = true := H 1 (by omega) (by omega)
    have h2 : isTable m.nodes = true := H 2 (by omega) (by omega)
    have h3 : isModes m.modes = true := H 3 (by omega) (by omega)
    have h4 : isSls m.slots = true := H 4 (by omega) (by omega)
    have h5 : rule5 m = true := H 5 (by omega) (by omega)
    have h6 : rule6 m = true := H 6 (by omega) (by omega)
    have h7 : rule7 m = true := H 7 (by omega) (by omega)
    have h8 : rule8 m = true := H 8 (by omega) (by omega)
    have h9 : rule9 m = true := H 9 (by omega) (by omega)
    have g : rule10 m = false := h
    simp [firstFault, h1, h2, h3, h4, h5, h6, h7, h8, h9, g]
theorem fault_none {m : Me} (H : ∀ j, 1 ≤ j → j < 11 → ruleN m j = true) : firstFault m = 0 := by
  have h1 : inRange 1 16777215 m.id = true := H 1 (by omega) (by omega)
  have h2 : isTable m.nodes = true := H 2 (by omega) (by omega)
  have h3 : isModes m.modes = true := H 3 (by omega) (by omega)
  have h4 : isSls m.slots = true := H 4 (by omega) (by omega)
  have h5 : rule5 m = true := H 5 (by omega) (by omega)
  have h6 : rule6 m = true := H 6 (by omega) (by omega)
  have h7 : rule7 m = true := H 7 (by omega) (by omega)
  have h8 : rule8 m = true := H 8 (by omega) (by omega)
  have h9 : rule9 m = true := H 9 (by omega) (by omega)
  have h10 : rule10 m = true := H 10 (by omega) (by omega)
  simp [firstFault, h1, h2, h3, h4, h5, h6, h7, h8, h9, h10]
end

section
open Go.RowKit Go.Maps
def ruleFn : Nat → Nat
  | 1 => 219
  | 2 => 221
  | 3 => 222
  | 4 => 223
  | 5 => 225
  | 6 => 226
  | 7 => 227
  | 8 => 228
  | 9 => 229
  | 10 => 230
  | _ => 0
theorem ruleCall (v : Mv) {k : Nat} (hk : 1 ≤ k) (hk2 : k ≤ 10) (H : ∀ j, 1 ≤ j → j < k → ruleN v.me j = true) :
    ∀ W, RdMe W v → Calls Tryz.prog (ruleFn k) #[mvVal v] W fun e w' => e = .returned (.bool (ruleN v.me k)) ∧ Below W.heap.size W w' := by
  have hc : k = 1 ∨ k = 2 ∨ k = 3 ∨ k = 4 ∨ k = 5 ∨ k = 6 ∨ k = 7 ∨ k = 8 ∨ k = 9 ∨ k = 10 := by omega
  rcases hc with rfl | rfl | rfl | rfl | rfl | rfl | rfl | rfl | rfl | rfl
  · exact fun W hW => rule1I_any v W hW
  · exact fun W hW => rule2I_any v W hW
  · exact fun W hW => rule3I_any v W hW
  · exact fun W hW => rule4I_any v W hW
  · exact fun W hW => hasAllSlots_any v W hW (H 3 (by omega) (by omega)) (H 4 (by omega) (by omega))
  · exact fun W hW => hasActive_any v W hW (H 2 (by omega) (by omega)) (H 4 (by omega) (by omega))
  · exact fun W hW => hasSame_any v W hW ⟨H 3 (by omega) (by omega), H 4 (by omega) (by omega), H 5 (by omega) (by omega)⟩
  · exact fun W hW => hasShort_any v W hW ⟨H 3 (by omega) (by omega), H 4 (by omega) (by omega), H 5 (by omega) (by omega)⟩
  · exact fun W hW => letsAll_any v W hW (H 2 (by omega) (by omega)) ⟨H 3 (by omega) (by omega), H 4 (by omega) (by omega), H 5 (by omega) (by omega)⟩
  · exact fun W hW => startsFirst_any v W hW
theorem zeroRule (w : World) : (zeroValue 232).run Tryz.prog w = .ok .nilFunc w := by kernel_rfl
set_option maxRecDepth 100000 in
set_option maxHeartbeats 4000000 in
theorem firstFault_any (v : Mv) (w : World) (hr : RdMe w v) :
    Calls Tryz.prog 167 #[mvVal v] w fun e w' => e = .returned (.int .i64 (firstFault v.me)) ∧ Below w.heap.size w w' := by
  have HX := Lib.hid (Bx.start (T := 28) hr)
  have HFA := Lib.hid (fun (k : Nat) hk hk2 H h => fault_at (m := v.me) (k := k) hk hk2 H h)
  have HFN := Lib.hid (fun H => fault_none (m := v.me) H)
  have HRC := Lib.hid (fun (k : Nat) hk hk2 H => ruleCall v (k := k) hk hk2 H)
  obtain ⟨F, hF⟩ : ∃ F, F = firstFault v.me := ⟨_, rfl⟩
  rw [← hF] at HFA HFN ⊢
  clear hF hr
  unfold mvVal at HRC ⊢
  go_enter Tryz.func167, Tryz.ntmps167
  go_upto_region 1 with fail
  generalize w.alloc (.cells #[.int .i64 v.id, .slice v.no v.n.length v.nc, .slice v.mo v.cs.length v.mc, .slice v.eo v.e.length v.ec] 28) = w1 at HX ⊢
  go_wp2_with fail
  refine (medlRules_any _).mono ?_
  rintro e w2 ⟨b, rfl, hm, b2⟩
  have HX2 := Lib.hid (HX.out.call b2)
  have HM2 := Lib.hid hm
  clear b2 HX hm
  go_wp2_with fail
  go_loopw [4] (fun i wr => ∃ k : Nat, 1 ≤ k ∧ k ≤ 11 ∧ i = .int .i64 k ∧ Hid (∀ j, 1 ≤ j → j < k → ruleN v.me j = true) ∧ Hid (FunMap Tryz.prog 2 wr b 10 ruleF) ∧ Hid (Bx 28 w wr w.heap.size v)) (fun i _ => 11 - (intOf i).toNat)
  case atStart => exact ⟨1, Nat.le_refl _, by omega, rfl, fun j h1 h2 => absurd h2 (by omega), HM2.out, HX2.out⟩
  case round =>
    clear HX2 HM2
    obtain ⟨k, hk1, hk11, hi, HALL, HM, HX⟩ := hrel
    by_cases hlt : k ≤ 10
    · have hc : k = 1 ∨ k = 2 ∨ k = 3 ∨ k = 4 ∨ k = 5 ∨ k = 6 ∨ k = 7 ∨ k = 8 ∨ k = 9 ∨ k = 10 := by omega
      obtain ⟨z0, z1, z2, z3⟩ := HX.out.at_.all
      rcases hc with rfl | rfl | rfl | rfl | rfl | rfl | rfl | rfl | rfl | rfl
      · replace hi : _ = Value.int .i64 1 := hi
        subst hi
        have HC : Hid (∀ W, RdMe W v → Calls Tryz.prog 219 #[.agg #[.int .i64 v.id, .slice v.no v.n.length v.nc, .slice v.mo v.cs.length v.mc, .slice v.eo v.e.length v.ec]] W fun e w' => e = .returned (.bool (ruleN v.me 1)) ∧ Below W.heap.size W w') := Lib.hid (HRC.out 1 (by omega) (by omega) HALL.out)
        have HA := Lib.hid (HFA.out 1 (by omega) (by omega) HALL.out)
        have HFF : Hid (ruleF 1 = some (.func (.func 219) #[] #[])) := Lib.hid rfl
        have HYES := Lib.hid (fun (h : ruleN v.me 1 = true) j (h1 : 1 ≤ j) (hj : j < 2) => (by
          rcases Nat.lt_or_ge j 1 with hl | hl
          · exact HALL.out j h1 hl
          · rw [show j = 1 from by omega]; exact h : ruleN v.me j = true))
        clear HALL
        generalize ruleN v.me 1 = q at HC HA HYES
        rcases q with _ | _
        · have HF := Lib.hid (HA.out rfl)
          clear HA HYES
          go_wp2_with (first
            | (at_len; refine lenF _ rfl (.tmp 7) rfl Tryz.underlying230 b 10 ruleF rfl HM.out ?_)
            | (at_lookup; refine lookF _ rfl (.tmp 12) (.tmp 13) rfl Tryz.underlying2 Tryz.underlying230 (zeroRule _) b 10 ruleF rfl HM.out 1 _ rfl ⟨by omega, by omega⟩ HFF.out ?_)
            | (go_at_call 219; (with_reducible refine (HC.out _ HX.out.rd).mono ?_); rintro e w3 ⟨rfl, b3⟩))
          clear z0 z1 z2 z3
          go_ret
          rw [HF.out]
          exact ⟨rfl, below_two HX.out.below b3⟩
        · have HN2 := Lib.hid (HYES.out rfl)
          clear HA HYES
          go_wp2_with (first
            | (at_len; refine lenF _ rfl (.tmp 7) rfl Tryz.underlying230 b 10 ruleF rfl HM.out ?_)
            | (at_lookup; refine lookF _ rfl (.tmp 12) (.tmp 13) rfl Tryz.underlying2 Tryz.underlying230 (zeroRule _) b 10 ruleF rfl HM.out 1 _ rfl ⟨by omega, by omega⟩ HFF.out ?_)
            | (go_at_call 219; (with_reducible refine (HC.out _ HX.out.rd).mono ?_); rintro e w3 ⟨rfl, b3⟩))
          clear z0 z1 z2 z3
          go_roundw
          case rel => exact ⟨2, by omega, by omega, by go_num, HN2, HM.out.below b3, HX.out.call b3⟩
          case measure => simp [intOf]
      · replace hi : _ = Value.int .i64 2 := hi
        subst hi
        have HC : Hid (∀ W, RdMe W v → Calls Tryz.prog 221 #[.agg #[.int .i64 v.id, .slice v.no v.n.length v.nc, .slice v.mo v.cs.length v.mc, .slice v.eo v.e.length v.ec]] W fun e w' => e = .returned (.bool (ruleN v.me 2)) ∧ Below W.heap.size W w') := Lib.hid (HRC.out 2 (by omega) (by omega) HALL.out)
        have HA := Lib.hid (HFA.out 2 (by omega) (by omega) HALL.out)
        have HFF : Hid (ruleF 2 = some (.func (.func 221) #[] #[])) := Lib.hid rfl
        have HYES := Lib.hid (fun (h : ruleN v.me 2 = true) j (h1 : 1 ≤ j) (hj : j < 3) => (by
          rcases Nat.lt_or_ge j 2 with hl | hl
          · exact HALL.out j h1 hl
          · rw [show j = 2 from by omega]; exact h : ruleN v.me j = true))
        clear HALL
        generalize ruleN v.me 2 = q at HC HA HYES
        rcases q with _ | _
        · have HF := Lib.hid (HA.out rfl)
          clear HA HYES
          go_wp2_with (first
            | (at_len; refine lenF _ rfl (.tmp 7) rfl Tryz.underlying230 b 10 ruleF rfl HM.out ?_)
            | (at_lookup; refine lookF _ rfl (.tmp 12) (.tmp 13) rfl Tryz.underlying2 Tryz.underlying230 (zeroRule _) b 10 ruleF rfl HM.out 2 _ rfl ⟨by omega, by omega⟩ HFF.out ?_)
            | (go_at_call 221; (with_reducible refine (HC.out _ HX.out.rd).mono ?_); rintro e w3 ⟨rfl, b3⟩))
          clear z0 z1 z2 z3
          go_ret
          rw [HF.out]
          exact ⟨rfl, below_two HX.out.below b3⟩
        · have HN2 := Lib.hid (HYES.out rfl)
          clear HA HYES
          go_wp2_with (first
            | (at_len; refine lenF _ rfl (.tmp 7) rfl Tryz.underlying230 b 10 ruleF rfl HM.out ?_)
            | (at_lookup; refine lookF _ rfl (.tmp 12) (.tmp 13) rfl Tryz.underlying2 Tryz.underlying230 (zeroRule _) b 10 ruleF rfl HM.out 2 _ rfl ⟨by omega, by omega⟩ HFF.out ?_)
            | (go_at_call 221; (with_reducible refine (HC.out _ HX.out.rd).mono ?_); rintro e w3 ⟨rfl, b3⟩))
          clear z0 z1 z2 z3
          go_roundw
          case rel => exact ⟨3, by omega, by omega, by go_num, HN2, HM.out.below b3, HX.out.call b3⟩
          case measure => simp [intOf]
      · replace hi : _ = Value.int .i64 3 := hi
        subst hi
        have HC : Hid (∀ W, RdMe W v → Calls Tryz.prog 222 #[.agg #[.int .i64 v.id, .slice v.no v.n.length v.nc, .slice v.mo v.cs.length v.mc, .slice v.eo v.e.length v.ec]] W fun e w' => e = .returned (.bool (ruleN v.me 3)) ∧ Below W.heap.size W w') := Lib.hid (HRC.out 3 (by omega) (by omega) HALL.out)
        have HA := Lib.hid (HFA.out 3 (by omega) (by omega) HALL.out)
        have HFF : Hid (ruleF 3 = some (.func (.func 222) #[] #[])) := Lib.hid rfl
        have HYES := Lib.hid (fun (h : ruleN v.me 3 = true) j (h1 : 1 ≤ j) (hj : j < 4) => (by
          rcases Nat.lt_or_ge j 3 with hl | hl
          · exact HALL.out j h1 hl
          · rw [show j = 3 from by omega]; exact h : ruleN v.me j = true))
        clear HALL
        generalize ruleN v.me 3 = q at HC HA HYES
        rcases q with _ | _
        · have HF := Lib.hid (HA.out rfl)
          clear HA HYES
          go_wp2_with (first
            | (at_len; refine lenF _ rfl (.tmp 7) rfl Tryz.underlying230 b 10 ruleF rfl HM.out ?_)
            | (at_lookup; refine lookF _ rfl (.tmp 12) (.tmp 13) rfl Tryz.underlying2 Tryz.underlying230 (zeroRule _) b 10 ruleF rfl HM.out 3 _ rfl ⟨by omega, by omega⟩ HFF.out ?_)
            | (go_at_call 222; (with_reducible refine (HC.out _ HX.out.rd).mono ?_); rintro e w3 ⟨rfl, b3⟩))
          clear z0 z1 z2 z3
          go_ret
          rw [HF.out]
          exact ⟨rfl, below_two HX.out.below b3⟩
        · have HN2 := Lib.hid (HYES.out rfl)
          clear HA HYES
          go_wp2_with (first
            | (at_len; refine lenF _ rfl (.tmp 7) rfl Tryz.underlying230 b 10 ruleF rfl HM.out ?_)
            | (at_lookup; refine lookF _ rfl (.tmp 12) (.tmp 13) rfl Tryz.underlying2 Tryz.underlying230 (zeroRule _) b 10 ruleF rfl HM.out 3 _ rfl ⟨by omega, by omega⟩ HFF.out ?_)
            | (go_at_call 222; (with_reducible refine (HC.out _ HX.out.rd).mono ?_); rintro e w3 ⟨rfl, b3⟩))
          clear z0 z1 z2 z3
          go_roundw
          case rel => exact ⟨4, by omega, by omega, by go_num, HN2, HM.out.below b3, HX.out.call b3⟩
          case measure => simp [intOf]
      · replace hi : _ = Value.int .i64 4 := hi
        subst hi
        have HC : Hid (∀ W, RdMe W v → Calls Tryz.prog 223 #[.agg #[.int .i64 v.id, .slice v.no v.n.length v.nc, .slice v.mo v.cs.length v.mc, .slice v.eo v.e.length v.ec]] W fun e w' => e = .returned (.bool (ruleN v.me 4)) ∧ Below W.heap.size W w') := Lib.hid (HRC.out 4 (by omega) (by omega) HALL.out)
        have HA := Lib.hid (HFA.out 4 (by omega) (by omega) HALL.out)
        have HFF : Hid (ruleF 4 = some (.func (.func 223) #[] #[])) := Lib.hid rfl
        have HYES := Lib.hid (fun (h : ruleN v.me 4 = true) j (h1 : 1 ≤ j) (hj : j < 5) => (by
          rcases Nat.lt_or_ge j 4 with hl | hl
          · exact HALL.out j h1 hl
          · rw [show j = 4 from by omega]; exact h : ruleN v.me j = true))
        clear HALL
        generalize ruleN v.me 4 = q at HC HA HYES
        rcases q with _ | _
        · have HF := Lib.hid (HA.out rfl)
          clear HA HYES
          go_wp2_with (first
            | (at_len; refine lenF _ rfl (.tmp 7) rfl Tryz.underlying230 b 10 ruleF rfl HM.out ?_)
            | (at_lookup; refine lookF _ rfl (.tmp 12) (.tmp 13) rfl Tryz.underlying2 Tryz.underlying230 (zeroRule _) b 10 ruleF rfl HM.out 4 _ rfl ⟨by omega, by omega⟩ HFF.out ?_)
            | (go_at_call 223; (with_reducible refine (HC.out _ HX.out.rd).mono ?_); rintro e w3 ⟨rfl, b3⟩))
          clear z0 z1 z2 z3
          go_ret
          rw [HF.out]
          exact ⟨rfl, below_two HX.out.below b3⟩
        · have HN2 := Lib.hid (HYES.out rfl)
          clear HA HYES
          go_wp2_with (first
            | (at_len; refine lenF _ rfl (.tmp 7) rfl Tryz.underlying230 b 10 ruleF rfl HM.out ?_)
            | (at_lookup; refine lookF _ rfl (.tmp 12) (.tmp 13) rfl Tryz.underlying2 Tryz.underlying230 (zeroRule _) b 10 ruleF rfl HM.out 4 _ rfl ⟨by omega, by omega⟩ HFF.out ?_)
            | (go_at_call 223; (with_reducible refine (HC.out _ HX.out.rd).mono ?_); rintro e w3 ⟨rfl, b3⟩))
          clear z0 z1 z2 z3
          go_roundw
          case rel => exact ⟨5, by omega, by omega, by go_num, HN2, HM.out.below b3, HX.out.call b3⟩
          case measure => simp [intOf]
      · replace hi : _ = Value.int .i64 5 := hi
        subst hi
        have HC : Hid (∀ W, RdMe W v → Calls Tryz.prog 225 #[.agg #[.int .i64 v.id, .slice v.no v.n.length v.nc, .slice v.mo v.cs.length v.mc, .slice v.eo v.e.length v.ec]] W fun e w' => e = .returned (.bool (ruleN v.me 5)) ∧ Below W.heap.size W w') := Lib.hid (HRC.out 5 (by omega) (by omega) HALL.out)
        have HA := Lib.hid (HFA.out 5 (by omega) (by omega) HALL.out)
        have HFF : Hid (ruleF 5 = some (.func (.func 225) #[] #[])) := Lib.hid rfl
        have HYES := Lib.hid (fun (h : ruleN v.me 5 = true) j (h1 : 1 ≤ j) (hj : j < 6) => (by
          rcases Nat.lt_or_ge j 5 with hl | hl
          · exact HALL.out j h1 hl
          · rw [show j = 5 from by omega]; exact h : ruleN v.me j = true))
        clear HALL
        generalize ruleN v.me 5 = q at HC HA HYES
        rcases q with _ | _
        · have HF := Lib.hid (HA.out rfl)
          clear HA HYES
          go_wp2_with (first
            | (at_len; refine lenF _ rfl (.tmp 7) rfl Tryz.underlying230 b 10 ruleF rfl HM.out ?_)
            | (at_lookup; refine lookF _ rfl (.tmp 12) (.tmp 13) rfl Tryz.underlying2 Tryz.underlying230 (zeroRule _) b 10 ruleF rfl HM.out 5 _ rfl ⟨by omega, by omega⟩ HFF.out ?_)
            | (go_at_call 225; (with_reducible refine (HC.out _ HX.out.rd).mono ?_); rintro e w3 ⟨rfl, b3⟩))
          clear z0 z1 z2 z3
          go_ret
          rw [HF.out]
          exact ⟨rfl, below_two HX.out.below b3⟩
        · have HN2 := Lib.hid (HYES.out rfl)
          clear HA HYES
          go_wp2_with (first
            | (at_len; refine lenF _ rfl (.tmp 7) rfl Tryz.underlying230 b 10 ruleF rfl HM.out ?_)
            | (at_lookup; refine lookF _ rfl (.tmp 12) (.tmp 13) rfl Tryz.underlying2 Tryz.underlying230 (zeroRule _) b 10 ruleF rfl HM.out 5 _ rfl ⟨by omega, by omega⟩ HFF.out ?_)
            | (go_at_call 225; (with_reducible refine (HC.out _ HX.out.rd).mono ?_); rintro e w3 ⟨rfl, b3⟩))
          clear z0 z1 z2 z3
          go_roundw
          case rel => exact ⟨6, by omega, by omega, by go_num, HN2, HM.out.below b3, HX.out.call b3⟩
          case measure => simp [intOf]
      · replace hi : _ = Value.int .i64 6 := hi
        subst hi
        have HC : Hid (∀ W, RdMe W v → Calls Tryz.prog 226 #[.agg #[.int .i64 v.id, .slice v.no v.n.length v.nc, .slice v.mo v.cs.length v.mc, .slice v.eo v.e.length v.ec]] W fun e w' => e = .returned (.bool (ruleN v.me 6)) ∧ Below W.heap.size W w') := Lib.hid (HRC.out 6 (by omega) (by omega) HALL.out)
        have HA := Lib.hid (HFA.out 6 (by omega) (by omega) HALL.out)
        have HFF : Hid (ruleF 6 = some (.func (.func 226) #[] #[])) := Lib.hid rfl
        have HYES := Lib.hid (fun (h : ruleN v.me 6 = true) j (h1 : 1 ≤ j) (hj : j < 7) => (by
          rcases Nat.lt_or_ge j 6 with hl | hl
          · exact HALL.out j h1 hl
          · rw [show j = 6 from by omega]; exact h : ruleN v.me j = true))
        clear HALL
        generalize ruleN v.me 6 = q at HC HA HYES
        rcases q with _ | _
        · have HF := Lib.hid (HA.out rfl)
          clear HA HYES
          go_wp2_with (first
            | (at_len; refine lenF _ rfl (.tmp 7) rfl Tryz.underlying230 b 10 ruleF rfl HM.out ?_)
            | (at_lookup; refine lookF _ rfl (.tmp 12) (.tmp 13) rfl Tryz.underlying2 Tryz.underlying230 (zeroRule _) b 10 ruleF rfl HM.out 6 _ rfl ⟨by omega, by omega⟩ HFF.out ?_)
            | (go_at_call 226; (with_reducible refine (HC.out _ HX.out.rd).mono ?_); rintro e w3 ⟨rfl, b3⟩))
          clear z0 z1 z2 z3
          go_ret
          rw [HF.out]
          exact ⟨rfl, below_two HX.out.below b3⟩
        · have HN2 := Lib.hid (HYES.out rfl)
          clear HA HYES
          go_wp2_with (first
            | (at_len; refine lenF _ rfl (.tmp 7) rfl Tryz.underlying230 b 10 ruleF rfl HM.out ?_)
            | (at_lookup; refine lookF _ rfl (.tmp 12) (.tmp 13) rfl Tryz.underlying2 Tryz.underlying230 (zeroRule _) b 10 ruleF rfl HM.out 6 _ rfl ⟨by omega, by omega⟩ HFF.out ?_)
            | (go_at_call 226; (with_reducible refine (HC.out _ HX.out.rd).mono ?_); rintro e w3 ⟨rfl, b3⟩))
          clear z0 z1 z2 z3
          go_roundw
          case rel => exact ⟨7, by omega, by omega, by go_num, HN2, HM.out.below b3, HX.out.call b3⟩
          case measure => simp [intOf]
      · replace hi : _ = Value.int .i64 7 := hi
        subst hi
        have HC : Hid (∀ W, RdMe W v → Calls Tryz.prog 227 #[.agg #[.int .i64 v.id, .slice v.no v.n.length v.nc, .slice v.mo v.cs.length v.mc, .slice v.eo v.e.length v.ec]] W fun e w' => e = .returned (.bool (ruleN v.me 7)) ∧ Below W.heap.size W w') := Lib.hid (HRC.out 7 (by omega) (by omega) HALL.out)
        have HA := Lib.hid (HFA.out 7 (by omega) (by omega) HALL.out)
        have HFF : Hid (ruleF 7 = some (.func (.func 227) #[] #[])) := Lib.hid rfl
        have HYES := Lib.hid (fun (h : ruleN v.me 7 = true) j (h1 : 1 ≤ j) (hj : j < 8) => (by
          rcases Nat.lt_or_ge j 7 with hl | hl
          · exact HALL.out j h1 hl
          · rw [show j = 7 from by omega]; exact h : ruleN v.me j = true))
        clear HALL
        generalize ruleN v.me 7 = q at HC HA HYES
        rcases q with _ | _
        · have HF := Lib.hid (HA.out rfl)
          clear HA HYES
          go_wp2_with (first
            | (at_len; refine lenF _ rfl (.tmp 7) rfl Tryz.underlying230 b 10 ruleF rfl HM.out ?_)
            | (at_lookup; refine lookF _ rfl (.tmp 12) (.tmp 13) rfl Tryz.underlying2 Tryz.underlying230 (zeroRule _) b 10 ruleF rfl HM.out 7 _ rfl ⟨by omega, by omega⟩ HFF.out ?_)
            | (go_at_call 227; (with_reducible refine (HC.out _ HX.out.rd).mono ?_); rintro e w3 ⟨rfl, b3⟩))
          clear z0 z1 z2 z3
          go_ret
          rw [HF.out]
          exact ⟨rfl, below_two HX.out.below b3⟩
        · have HN2 := Lib.hid (HYES.out rfl)
          clear HA HYES
          go_wp2_with (first
            | (at_len; refine lenF _ rfl (.tmp 7) rfl Tryz.underlying230 b 10 ruleF rfl HM.out ?_)
            | (at_lookup; refine lookF _ rfl (.tmp 12) (.tmp 13) rfl Tryz.underlying2 Tryz.underlying230 (zeroRule _) b 10 ruleF rfl HM.out 7 _ rfl ⟨by omega, by omega⟩ HFF.out ?_)
            | (go_at_call 227; (with_reducible refine (HC.out _ HX.out.rd).mono ?_); rintro e w3 ⟨rfl, b3⟩))
          clear z0 z1 z2 z3
          go_roundw
          case rel => exact ⟨8, by omega, by omega, by go_num, HN2, HM.out.below b3, HX.out.call b3⟩
          case measure => simp [intOf]
      · replace hi : _ = Value.int .i64 8 := hi
        subst hi
        have HC : Hid (∀ W, RdMe W v → Calls Tryz.prog 228 #[.agg #[.int .i64 v.id, .slice v.no v.n.length v.nc, .slice v.mo v.cs.length v.mc, .slice v.eo v.e.length v.ec]] W fun e w' => e = .returned (.bool (ruleN v.me 8)) ∧ Below W.heap.size W w') := Lib.hid (HRC.out 8 (by omega) (by omega) HALL.out)
        have HA := Lib.hid (HFA.out 8 (by omega) (by omega) HALL.out)
        have HFF : Hid (ruleF 8 = some (.func (.func 228) #[] #[])) := Lib.hid rfl
        have HYES := Lib.hid (fun (h : ruleN v.me 8 = true) j (h1 : 1 ≤ j) (hj : j < 9) => (by
          rcases Nat.lt_or_ge j 8 with hl | hl
          · exact HALL.out j h1 hl
          · rw [show j = 8 from by omega]; exact h : ruleN v.me j = true))
        clear HALL
        generalize ruleN v.me 8 = q at HC HA HYES
        rcases q with _ | _
        · have HF := Lib.hid (HA.out rfl)
          clear HA HYES
          go_wp2_with (first
            | (at_len; refine lenF _ rfl (.tmp 7) rfl Tryz.underlying230 b 10 ruleF rfl HM.out ?_)
            | (at_lookup; refine lookF _ rfl (.tmp 12) (.tmp 13) rfl Tryz.underlying2 Tryz.underlying230 (zeroRule _) b 10 ruleF rfl HM.out 8 _ rfl ⟨by omega, by omega⟩ HFF.out ?_)
            | (go_at_call 228; (with_reducible refine (HC.out _ HX.out.rd).mono ?_); rintro e w3 ⟨rfl, b3⟩))
          clear z0 z1 z2 z3
          go_ret
          rw [HF.out]
          exact ⟨rfl, below_two HX.out.below b3⟩
        · have HN2 := Lib.hid (HYES.out rfl)
          clear HA HYES
          go_wp2_with (first
            | (at_len; refine lenF _ rfl (.tmp 7) rfl Tryz.underlying230 b 10 ruleF rfl HM.out ?_)
            | (at_lookup; refine lookF _ rfl (.tmp 12) (.tmp 13) rfl Tryz.underlying2 Tryz.underlying230 (zeroRule _) b 10 ruleF rfl HM.out 8 _ rfl ⟨by omega, by omega⟩ HFF.out ?_)
            | (go_at_call 228; (with_reducible refine (HC.out _ HX.out.rd).mono ?_); rintro e w3 ⟨rfl, b3⟩))
          clear z0 z1 z2 z3
          go_roundw
          case rel => exact ⟨9, by omega, by omega, by go_num, HN2, HM.out.below b3, HX.out.call b3⟩
          case measure => simp [intOf]
      · replace hi : _ = Value.int .i64 9 := hi
        subst hi
        have HC : Hid (∀ W, RdMe W v → Calls Tryz.prog 229 #[.agg #[.int .i64 v.id, .slice v.no v.n.length v.nc, .slice v.mo v.cs.length v.mc, .slice v.eo v.e.length v.ec]] W fun e w' => e = .returned (.bool (ruleN v.me 9)) ∧ Below W.heap.size W w') := Lib.hid (HRC.out 9 (by omega) (by omega) HALL.out)
        have HA := Lib.hid (HFA.out 9 (by omega) (by omega) HALL.out)
        have HFF : Hid (ruleF 9 = some (.func (.func 229) #[] #[])) := Lib.hid rfl
        have HYES := Lib.hid (fun (h : ruleN v.me 9 = true) j (h1 : 1 ≤ j) (hj : j < 10) => (by
          rcases Nat.lt_or_ge j 9 with hl | hl
          · exact HALL.out j h1 hl
          · rw [show j = 9 from by omega]; exact h : ruleN v.me j = true))
        clear HALL
        generalize ruleN v.me 9 = q at HC HA HYES
        rcases q with _ | _
        · have HF := Lib.hid (HA.out rfl)
          clear HA HYES
          go_wp2_with (first
            | (at_len; refine lenF _ rfl (.tmp 7) rfl Tryz.underlying230 b 10 ruleF rfl HM.out ?_)
            | (at_lookup; refine lookF _ rfl (.tmp 12) (.tmp 13) rfl Tryz.underlying2 Tryz.underlying230 (zeroRule _) b 10 ruleF rfl HM.out 9 _ rfl ⟨by omega, by omega⟩ HFF.out ?_)
            | (go_at_call 229; (with_reducible refine (HC.out _ HX.out.rd).mono ?_); rintro e w3 ⟨rfl, b3⟩))
          clear z0 z1 z2 z3
          go_ret
          rw [HF.out]
          exact ⟨rfl, below_two HX.out.below b3⟩
        · have HN2 := Lib.hid (HYES.out rfl)
          clear HA HYES
          go_wp2_with (first
            | (at_len; refine lenF _ rfl (.tmp 7) rfl Tryz.underlying230 b 10 ruleF rfl HM.out ?_)
            | (at_lookup; refine lookF _ rfl (.tmp 12) (.tmp 13) rfl Tryz.underlying2 Tryz.underlying230 (zeroRule _) b 10 ruleF rfl HM.out 9 _ rfl ⟨by omega, by omega⟩ HFF.out ?_)
            | (go_at_call 229; (with_reducible refine (HC.out _ HX.out.rd).mono ?_); rintro e w3 ⟨rfl, b3⟩))
          clear z0 z1 z2 z3
          go_roundw
          case rel => exact ⟨10, by omega, by omega, by go_num, HN2, HM.out.below b3, HX.out.call b3⟩
          case measure => simp [intOf]
      · replace hi : _ = Value.int .i64 10 := hi
        subst hi
        have HC : Hid (∀ W, RdMe W v → Calls Tryz.prog 230 #[.agg #[.int .i64 v.id, .slice v.no v.n.length v.nc, .slice v.mo v.cs.length v.mc, .slice v.eo v.e.length v.ec]] W fun e w' => e = .returned (.bool (ruleN v.me 10)) ∧ Below W.heap.size W w') := Lib.hid (HRC.out 10 (by omega) (by omega) HALL.out)
        have HA := Lib.hid (HFA.out 10 (by omega) (by omega) HALL.out)
        have HFF : Hid (ruleF 10 = some (.func (.func 230) #[] #[])) := Lib.hid rfl
        have HYES := Lib.hid (fun (h : ruleN v.me 10 = true) j (h1 : 1 ≤ j) (hj : j < 11) => (by
          rcases Nat.lt_or_ge j 10 with hl | hl
          · exact HALL.out j h1 hl
          · rw [show j = 10 from by omega]; exact h : ruleN v.me j = true))
        clear HALL
        generalize ruleN v.me 10 = q at HC HA HYES
        rcases q with _ | _
        · have HF := Lib.hid (HA.out rfl)
          clear HA HYES
          go_wp2_with (first
            | (at_len; refine lenF _ rfl (.tmp 7) rfl Tryz.underlying230 b 10 ruleF rfl HM.out ?_)
            | (at_lookup; refine lookF _ rfl (.tmp 12) (.tmp 13) rfl Tryz.underlying2 Tryz.underlying230 (zeroRule _) b 10 ruleF rfl HM.out 10 _ rfl ⟨by omega, by omega⟩ HFF.out ?_)
            | (go_at_call 230; (with_reducible refine (HC.out _ HX.out.rd).mono ?_); rintro e w3 ⟨rfl, b3⟩))
          clear z0 z1 z2 z3
          go_ret
          rw [HF.out]
          exact ⟨rfl, below_two HX.out.below b3⟩
        · have HN2 := Lib.hid (HYES.out rfl)
          clear HA HYES
          go_wp2_with (first
            | (at_len; refine lenF _ rfl (.tmp 7) rfl Tryz.underlying230 b 10 ruleF rfl HM.out ?_)
            | (at_lookup; refine lookF _ rfl (.tmp 12) (.tmp 13) rfl Tryz.underlying2 Tryz.underlying230 (zeroRule _) b 10 ruleF rfl HM.out 10 _ rfl ⟨by omega, by omega⟩ HFF.out ?_)
            | (go_at_call 230; (with_reducible refine (HC.out _ HX.out.rd).mono ?_); rintro e w3 ⟨rfl, b3⟩))
          clear z0 z1 z2 z3
          go_roundw
          case rel => exact ⟨11, by omega, by omega, by go_num, HN2, HM.out.below b3, HX.out.call b3⟩
          case measure => simp [intOf]
    · have hkn : k = 11 := by omega
      subst hkn
      replace hi : _ = Value.int .i64 11 := hi
      subst hi
      have HF := Lib.hid (HFN.out HALL.out)
      clear HALL
      go_wp2_with (at_len; refine lenF _ rfl (.tmp 7) rfl Tryz.underlying230 b 10 ruleF rfl HM.out ?_)
      go_ret
      rw [HF.out]
      exact ⟨rfl, HX.out.below⟩
set_option maxRecDepth 100000 in
set_option maxHeartbeats 4000000 in
theorem isMedl_any (v : Mv) (w : World) (hr : RdMe w v) :
    Calls Tryz.prog 127 #[mvVal v] w fun e w' => e = .returned (.bool (isMedl v.me)) ∧ Below w.heap.size w w' := by
  have HX := Lib.hid (Bx.start (T := 28) hr)
  have HC := Lib.hid (fun W hW => firstFault_any v W hW)
  unfold isMedl
  generalize firstFault v.me = F at HC ⊢
  clear hr
  unfold mvVal at HC ⊢
  by_cases hF : F = 0
  · have hb : (F == 0) = true := by simp [hF]
    rw [show decide (F = 0) = true from decide_eq_true hF]
    clear hF
    go_enter Tryz.func127, Tryz.ntmps127
    go_upto_region 1 with fail
    generalize w.alloc (.cells #[.int .i64 v.id, .slice v.no v.n.length v.nc, .slice v.mo v.cs.length v.mc, .slice v.eo v.e.length v.ec] 28) = w1 at HX ⊢
    obtain ⟨z0, z1, z2, z3⟩ := HX.out.at_.all
    go_wp2_with fail
    refine (HC.out _ HX.out.rd).mono ?_
    rintro e w3 ⟨rfl, b3⟩
    clear z0 z1 z2 z3
    go_wp2_with fail
    go_ret
    exact ⟨rfl, below_two HX.out.below b3⟩
  · have hb : (F == 0) = false := by simp [hF]
    rw [show decide (F = 0) = false from decide_eq_false hF]
    clear hF
    go_enter Tryz.func127, Tryz.ntmps127
    go_upto_region 1 with fail
    generalize w.alloc (.cells #[.int .i64 v.id, .slice v.no v.n.length v.nc, .slice v.mo v.cs.length v.mc, .slice v.eo v.e.length v.ec] 28) = w1 at HX ⊢
    obtain ⟨z0, z1, z2, z3⟩ := HX.out.at_.all
    go_wp2_with fail
    refine (HC.out _ HX.out.rd).mono ?_
    rintro e w3 ⟨rfl, b3⟩
    clear z0 z1 z2 z3
    go_wp2_with fail
    go_ret
    exact ⟨rfl, below_two HX.out.below b3⟩
end

section
open Go.RowKit
def codeMe (m : Me) (k : Int) : Int := if isMedl m = false then 1 else if isMode m.modes k = false then 2 else 0
theorem codeMe_no {m : Me} {k : Int} (h : codeMe m k ≠ 0) : cycleTime m k = (0, codeMe m k) ∧ roundTime m k = (0, codeMe m k) := by
  unfold codeMe at h ⊢
  unfold cycleTime roundTime
  rcases h1 : isMedl m with _ | _
  · exact ⟨rfl, rfl⟩
  · rcases h2 : isMode m.modes k with _ | _
    · exact ⟨rfl, rfl⟩
    · rw [h1, h2] at h
      exact absurd rfl h
theorem codeMe_yes {m : Me} {k : Int} (h : codeMe m k = 0) : ∃ j : Nat, k = j ∧ j < m.modes.length ∧ isMedl m = true ∧ cycleTime m k = (dursum (inMode m.slots j), 0) ∧ roundTime m k = (dursum (inRound m.slots j 0), 0) := by
  unfold codeMe at h
  unfold cycleTime roundTime
  rcases h1 : isMedl m with _ | _
  · rw [h1] at h; cases h
  · rcases h2 : isMode m.modes k with _ | _
    · rw [h1, h2] at h; cases h
    · obtain ⟨j, rfl, hj⟩ := mode_nat h2
      exact ⟨j, rfl, hj, rfl, by simp, by simp⟩
theorem Well.full {m : Me} (h : Well m) : Full m := ⟨h.r3, h.r4, h.r5⟩
set_option maxRecDepth 100000 in
set_option maxHeartbeats 4000000 in
theorem codeMe_any (v : Mv) (k : Int) (w : World) (hr : RdMe w v) :
    Calls Tryz.prog 76 #[mvVal v, .int .i64 k] w fun e w' => e = .returned (.int .i64 (codeMe v.me k)) ∧ Below w.heap.size w w' := by
  have HX := Lib.hid (Bx.start (T := 28) hr)
  have HC := Lib.hid (fun W hW => isMedl_any v W hW)
  clear hr
  rcases hm : isMedl v.me with _ | _
  · have HF := Lib.hid (show codeMe v.me k = 1 from by unfold codeMe; rw [if_pos hm])
    rw [hm] at HC
    clear hm
    unfold mvVal at HC ⊢
    go_enter Tryz.func76, Tryz.ntmps76
    go_upto_region 1 with fail
    generalize w.alloc (.cells #[.int .i64 v.id, .slice v.no v.n.length v.nc, .slice v.mo v.cs.length v.mc, .slice v.eo v.e.length v.ec] 28) = w1 at HX ⊢
    obtain ⟨z0, z1, z2, z3⟩ := HX.out.at_.all
    go_wp2_with fail
    refine (HC.out _ HX.out.rd).mono ?_
    rintro e w2 ⟨rfl, b2⟩
    clear z0 z1 z2 z3
    go_wp2_with fail
    go_ret
    rw [HF.out]
    exact ⟨rfl, below_two HX.out.below b2⟩
  · have hmm := (medl_iff.1 hm).r3
    have HF := Lib.hid (show codeM (mds v.cs) [k] = codeMe v.me k from by
      have h1 : isModes (mds v.cs) = true := hmm
      have h2 : isMode v.me.modes k = isMode (mds v.cs) k := rfl
      rw [codeM_one]
      unfold codeMe
      rw [hm, h1, h2])
    rw [hm] at HC
    clear hm hmm
    unfold mvVal at HC ⊢
    go_enter Tryz.func76, Tryz.ntmps76
    go_upto_region 1 with fail
    generalize w.alloc (.cells #[.int .i64 v.id, .slice v.no v.n.length v.nc, .slice v.mo v.cs.length v.mc, .slice v.eo v.e.length v.ec] 28) = w1 at HX ⊢
    obtain ⟨z0, z1, z2, z3⟩ := HX.out.at_.all
    go_wp2_with fail
    refine (HC.out _ HX.out.rd).mono ?_
    rintro e w2 ⟨rfl, b2⟩
    have HX2 := Lib.hid (HX.out.call b2)
    clear z0 z1 z2 z3 b2 HX HC
    obtain ⟨z0, z1, z2, z3⟩ := HX2.out.at_.all
    have b3 := (Below.refl w2.heap.size w2).alloc (Nat.le_refl _) (.cells #[.int .i64 k] 2)
    have HX3 := Lib.hid (HX2.out.call b3)
    have HR1 := Lib.hid (rd_one 2 k w2)
    clear b3
    go_wp2_with fail
    refine (codeM_any v.mo v.cs.length v.mc v.cs _ 1 1 [k] _ HX3.out.rd.rm HX3.out.rd.ml HX3.out.rd.ms HR1.out (by omega)).mono ?_
    rintro e w4 ⟨rfl, b4⟩
    rw [HF.out]
    clear z0 z1 z2 z3
    go_wp2_with fail
    go_ret
    exact ⟨rfl, below_two HX3.out.below b4⟩
set_option maxRecDepth 100000 in
set_option maxHeartbeats 4000000 in
theorem cycleTime_any (v : Mv) (k : Int) (w : World) (hr : RdMe w v) :
    Calls Tryz.prog 23 #[mvVal v, .int .i64 k] w fun e w' => e = .returned (.tuple #[.int .i64 (cycleTime v.me k).1, .int .i64 (cycleTime v.me k).2]) ∧ Below w.heap.size w w' := by
  have HX := Lib.hid (Bx.start (T := 28) hr)
  have HC := Lib.hid (fun W hW => codeMe_any v k W hW)
  clear hr
  by_cases hc : codeMe v.me k = 0
  · obtain ⟨j, rfl, hj, hm, h1, h2⟩ := codeMe_yes hc
    have HW := Lib.hid (medl_iff.1 hm)
    have hj0 := hj
    replace hj : j < v.cs.length := by have e : v.me.modes.length = v.cs.length := mds_len v.cs; omega
    have hr0 : 0 < (mdOf v.me.modes j).rounds.toNat := by have := md_bounds HW.out.r3 hj0; omega
    have HCY := Lib.hid (fun W (hW : RdMe W v) => cycleOf_any v j W hW HW.out.full hj)
    have hml : (inMode v.e j).length ≤ 1048576 := Nat.le_trans (inMode_le v.e j) (Nat.le_trans (isSls_iff.1 HW.out.r4).1 (by omega))
    have HTM := Lib.hid (fun ao n c W (hW : RdE W ao n (inMode v.e j)) (hn : n ≤ 1048576) => timeOf_any ao n c (inMode v.e j) W hW hn (fun x hx => sl_dur HW.out.r4 (inMode_sub hx)))
    rw [h1]
    change Calls _ _ _ _ fun e w' => e = .returned (.tuple #[.int .i64 (dursum (inMode v.e j)), .int .i64 0]) ∧ _
    have HML := Lib.hid hml
    generalize inMode v.e j = t at HCY HTM HML ⊢
    generalize dursum t = z at HTM ⊢
    rw [hc] at HC
    clear hj hj0 hm h1 h2 hr0 hml HW hc
    unfold mvVal at HC HCY ⊢
    go_enter Tryz.func23, Tryz.ntmps23
    go_upto_region 1 with fail
    generalize w.alloc (.cells #[.int .i64 v.id, .slice v.no v.n.length v.nc, .slice v.mo v.cs.length v.mc, .slice v.eo v.e.length v.ec] 28) = w1 at HX ⊢
    obtain ⟨z0, z1, z2, z3⟩ := HX.out.at_.all
    go_wp2_with fail
    refine (HC.out _ HX.out.rd).mono ?_
    rintro e w2 ⟨rfl, b2⟩
    have HX2 := Lib.hid (HX.out.call b2)
    clear z0 z1 z2 z3 b2 HX HC
    obtain ⟨z0, z1, z2, z3⟩ := HX2.out.at_.all
    go_wp2_with fail
    refine (HCY.out _ HX2.out.rd).mono ?_
    rintro e w3 ⟨so, sc, rfl, srd, -, -, b3⟩
    have HX3 := Lib.hid (HX2.out.call b3)
    have HT := Lib.hid (HTM.out so t.length sc w3 srd HML.out)
    clear z0 z1 z2 z3 b3 HX2 srd
    go_wp2_with fail
    refine HT.out.mono ?_
    rintro e w4 ⟨rfl, b4⟩
    go_wp2_with fail
    go_ret2
    exact ⟨rfl, below_two HX3.out.below b4⟩
  · rw [(codeMe_no hc).1]
    generalize codeMe v.me k = q at hc HC ⊢
    have hb : (q != 0) = true := by simp [hc]
    clear hc
    unfold mvVal at HC ⊢
    go_enter Tryz.func23, Tryz.ntmps23
    go_upto_region 1 with fail
    generalize w.alloc (.cells #[.int .i64 v.id, .slice v.no v.n.length v.nc, .slice v.mo v.cs.length v.mc, .slice v.eo v.e.length v.ec] 28) = w1 at HX ⊢
    obtain ⟨z0, z1, z2, z3⟩ := HX.out.at_.all
    go_wp2_with fail
    refine (HC.out _ HX.out.rd).mono ?_
    rintro e w2 ⟨rfl, b2⟩
    clear z0 z1 z2 z3
    go_wp2_with fail
    go_ret2
    exact ⟨rfl, below_two HX.out.below b2⟩
end
end Go.Proofs.YthihjhidjnadaaaGreat
