/-
  Chapter 12: the laws' functions on slot entries: made, measured, compared, marked, found again.
  Over slots: how long the results are.
  Two boxes of slots read in a later world.
-/
import Derived.Test.YtpedlofckbplmaaSlR
import Derived.Test.YtpedlofckbplmaaEigA
import Derived.Test.YtpedlofckbplmaaSlA
namespace Go.Proofs.Ytpedlofckbplmaa
section
open Go.RowKit

def fillL (t : List Sl) (k : Nat) : List Sl := t.take k ++ List.replicate (t.length - k) Sl.zero
theorem fillL_len (t : List Sl) (k : Nat) (hk : k ≤ t.length) : (fillL t k).length = t.length := by
  unfold fillL; rw [List.length_append, List.length_take, List.length_replicate]; omega
theorem fillL_zero (t : List Sl) : fillL t 0 = List.replicate t.length Sl.zero := by simp [fillL]
theorem fillL_all (t : List Sl) : fillL t t.length = t := by simp [fillL]
theorem fillL_succ (t : List Sl) (k : Nat) (hk : k < t.length) : (fillL t k).set k (slOf t k) = fillL t (k + 1) := by
  have hm : min k t.length = k := by omega
  unfold fillL
  rw [slOf_get hk, List.take_succ_eq_append_getElem hk, List.set_append_right _ _ (by rw [List.length_take]; omega)]
  rw [show t.length - k = (t.length - (k + 1)) + 1 from by omega, List.replicate_succ, List.length_take, hm, Nat.sub_self, List.set_cons_zero]
  rw [List.append_assoc]; rfl
/-! ### measured -/
def szL (t : List Sl) (m : Int) : Int := if m < t.length then -1 else m - t.length
theorem szL_ok {t : List Sl} (h : 0 ≤ szL t 1048576) : t.length ≤ 1048576 := by
  unfold szL at h
  split at h
  · omega
  · omega
/-! ### compared -/
set_option maxHeartbeats 1000000 in
set_option maxRecDepth 100000 in
theorem eqSlot_any (x : Sl) (w : World) : Calls Try.prog 92 #[slVal x, slVal x] w fun e w' => e = .returned (.bool true) ∧ Below w.heap.size w w' := by
  have HT := Lib.hid (two_sl w x x)
  have HB := Lib.hid (show Below w.heap.size w ((w.alloc (.cells #[.int .i64 x.mode, .int .i64 x.round, .int .i64 x.slot, .int .i64 x.desc.node, .int .i64 x.desc.kind, .int .i64 x.desc.size, .int .i64 x.desc.dur, .bool x.desc.chg] 93)).alloc (.cells #[.int .i64 x.mode, .int .i64 x.round, .int .i64 x.slot, .int .i64 x.desc.node, .int .i64 x.desc.kind, .int .i64 x.desc.size, .int .i64 x.desc.dur, .bool x.desc.chg] 93)) from below_two ((Below.refl _ _).alloc (Nat.le_refl _) _) ((Below.refl _ _).alloc (Nat.le_refl _) _))
  have HC := Lib.hid (fun W => eqDescriptor_any x.desc.node x.desc.kind x.desc.size x.desc.dur x.desc.chg W)
  unfold slVal
  go_enter Try.func92, Try.ntmps92
  go_upto_region 1 with fail
  generalize (w.alloc (.cells #[.int .i64 x.mode, .int .i64 x.round, .int .i64 x.slot, .int .i64 x.desc.node, .int .i64 x.desc.kind, .int .i64 x.desc.size, .int .i64 x.desc.dur, .bool x.desc.chg] 93)).alloc (.cells #[.int .i64 x.mode, .int .i64 x.round, .int .i64 x.slot, .int .i64 x.desc.node, .int .i64 x.desc.kind, .int .i64 x.desc.size, .int .i64 x.desc.dur, .bool x.desc.chg] 93) = w1 at HT HB ⊢
  obtain ⟨q0, q1, q2, q3, q4, q5, q6, q7⟩ := HT.out.a.all8
  obtain ⟨r0, r1, r2, r3, r4, r5, r6, r7⟩ := HT.out.b.all8
  have n0 : (x.mode != x.mode) = false := by simp
  have n1 : (x.round != x.round) = false := by simp
  have n2 : (x.slot != x.slot) = false := by simp
  go_wp2_with fail
  refine (HC.out _).mono ?_
  rintro e w2 ⟨rfl, b2⟩
  have HB2 := Lib.hid (below_two HB.out b2)
  clear b2 q0 q1 q2 q3 q4 q5 q6 q7 r0 r1 r2 r3 r4 r5 r6 r7
  go_wp2_with fail
  go_ret
  exact ⟨rfl, HB2.out⟩
theorem sl_neq (x : Sl) (w : World) : (binOp .neq 93 (.agg #[.int .i64 x.mode, .int .i64 x.round, .int .i64 x.slot, .int .i64 x.desc.node, .int .i64 x.desc.kind, .int .i64 x.desc.size, .int .i64 x.desc.dur, .bool x.desc.chg]) (.agg #[.int .i64 x.mode, .int .i64 x.round, .int .i64 x.slot, .int .i64 x.desc.node, .int .i64 x.desc.kind, .int .i64 x.desc.size, .int .i64 x.desc.dur, .bool x.desc.chg])).run Try.prog w = .ok (.bool false) w := by
  rw [run_neq_struct]
  have h : (Op.equalIn 10000 93 (.agg #[.int .i64 x.mode, .int .i64 x.round, .int .i64 x.slot, .int .i64 x.desc.node, .int .i64 x.desc.kind, .int .i64 x.desc.size, .int .i64 x.desc.dur, .bool x.desc.chg]) (.agg #[.int .i64 x.mode, .int .i64 x.round, .int .i64 x.slot, .int .i64 x.desc.node, .int .i64 x.desc.kind, .int .i64 x.desc.size, .int .i64 x.desc.dur, .bool x.desc.chg])).run Try.prog w = .ok true w := by
    rw [run_equalIn_agg w 9999 _ _ _ (by kernel_rfl) (by kernel_rfl)]
    simp only [Program.fieldsOf, Try.underlying93, Op.eqFields]
    simp [go_sem]
  rw [h]; rfl
set_option maxHeartbeats 1000000 in
set_option maxRecDepth 100000 in
set_option linter.unusedSimpArgs false in
/-- laws.eqSlotInfoS of one list read twice. -/
theorem eqSlots_yes (ao bo : Option Addr) (n c d : Nat) (t : List Sl) (w : World) (hx : RdE w ao n t) (hy : RdE w bo n t) (hn : n ≤ 9223372036854775807) (hc : n ≤ c) (hd : n ≤ d) :
    Calls Try.prog 47 #[.slice ao n c, .slice bo n d] w fun e w' => e = .returned (.bool true) ∧ Below w.heap.size w w' := by
  have HX := Lib.hid hx; have HY := Lib.hid hy; clear hx hy
  have hne : ((n : Int) != (n : Int)) = false := by simp
  go_enter Try.func47, Try.ntmps47
  go_wp2_with fail
  clear hne
  go_loopw [5] (fun i wr => ∃ k : Nat, k ≤ n ∧ i = .int .i64 k ∧ Below w.heap.size w wr) (fun i _ => n - (intOf i).toNat)
  case atStart => exact ⟨0, Nat.zero_le _, rfl, Below.refl _ _⟩
  case round =>
    obtain ⟨k, hk, rfl, hb⟩ := hrel
    by_cases hlt : k < n
    · obtain ⟨g, off, rfl, hg, hx⟩ := HX.out.at hlt
      obtain ⟨g', off', rfl, hg', hy⟩ := HY.out.at hlt
      replace hx := hx.below hb hg
      replace hy := hy.below hb hg'
      have HB := Lib.hid hb; clear hb
      obtain ⟨x, hxe⟩ : ∃ x, x = slOf t k := ⟨_, rfl⟩
      rw [← hxe] at hx hy
      clear hxe
      have HXW := Lib.hid (fun W (hW : Below wr.heap.size wr W) => (hx.below hW hx.lt).all8)
      have HYW := Lib.hid (fun W (hW : Below wr.heap.size wr W) => (hy.below hW hy.lt).all8)
      have HD := Lib.hid (show Below wr.heap.size wr wr.drew from Below.drew (Below.refl _ _))
      clear hx hy hg hg'
      have HCALL := Lib.hid (fun W => eqSlot_any x W)
      unfold slVal at HCALL
      go_upto_region 6 with fail
      refine wp_region_held_drew (S := fun w' => (w'.cell? ⟨g, off + k * 8, none⟩ = some (Value.int .i64 x.mode) ∧ w'.cell? ⟨g, off + k * 8 + 1, none⟩ = some (Value.int .i64 x.round) ∧ w'.cell? ⟨g, off + k * 8 + 2, none⟩ = some (Value.int .i64 x.slot) ∧ w'.cell? ⟨g, off + k * 8 + 3, none⟩ = some (Value.int .i64 x.desc.node) ∧ w'.cell? ⟨g, off + k * 8 + 4, none⟩ = some (Value.int .i64 x.desc.kind) ∧ w'.cell? ⟨g, off + k * 8 + 5, none⟩ = some (Value.int .i64 x.desc.size) ∧ w'.cell? ⟨g, off + k * 8 + 6, none⟩ = some (Value.int .i64 x.desc.dur) ∧ w'.cell? ⟨g, off + k * 8 + 7, none⟩ = some (Value.bool x.desc.chg)) ∧ (w'.cell? ⟨g', off' + k * 8, none⟩ = some (Value.int .i64 x.mode) ∧ w'.cell? ⟨g', off' + k * 8 + 1, none⟩ = some (Value.int .i64 x.round) ∧ w'.cell? ⟨g', off' + k * 8 + 2, none⟩ = some (Value.int .i64 x.slot) ∧ w'.cell? ⟨g', off' + k * 8 + 3, none⟩ = some (Value.int .i64 x.desc.node) ∧ w'.cell? ⟨g', off' + k * 8 + 4, none⟩ = some (Value.int .i64 x.desc.kind) ∧ w'.cell? ⟨g', off' + k * 8 + 5, none⟩ = some (Value.int .i64 x.desc.size) ∧ w'.cell? ⟨g', off' + k * 8 + 6, none⟩ = some (Value.int .i64 x.desc.dur) ∧ w'.cell? ⟨g', off' + k * 8 + 7, none⟩ = some (Value.bool x.desc.chg))) (by kernel_rfl) (⟨HXW.out _ HD.out, HYW.out _ HD.out⟩) (fun hHeld => ?_)
      generalize wr.drew = w1 at HD hHeld ⊢
      refine wpAnyH_take (i := 0) (v := ?_) rfl (by kernel_rfl) (by kernel_rfl) (by kernel_rfl) (fun _ _ _ h => h) (Or.inl ⟨by rfl, ?_⟩) (by assumption) ?_
      rotate_left
      · (intro w hSw; (try dsimp only at hSw); go_simp; (try with_reducible rfl))
      try simp only [List.getElem_toArray, List.getElem_cons_succ, List.getElem_cons_zero, Act.put, List.setIfInBounds_toArray, List.set_cons_zero, List.set_cons_succ]
      refine wpAnyH_take (i := 1) (v := ?_) rfl (by kernel_rfl) (by kernel_rfl) (by kernel_rfl) (fun _ _ _ h => h) (Or.inl ⟨by rfl, ?_⟩) (by assumption) ?_
      rotate_left
      · (intro w hSw; (try dsimp only at hSw); go_simp; (try with_reducible rfl))
      try simp only [List.getElem_toArray, List.getElem_cons_succ, List.getElem_cons_zero, Act.put, List.setIfInBounds_toArray, List.set_cons_zero, List.set_cons_succ]
      refine wpAnyH_take (i := 2) (v := ?_) rfl (by kernel_rfl) (by kernel_rfl) (by kernel_rfl) (fun _ _ _ h => h) (Or.inl ⟨by rfl, ?_⟩) (by assumption) ?_
      rotate_left
      · (intro w hSw; (try dsimp only at hSw); go_simp; (try with_reducible rfl))
      try simp only [List.getElem_toArray, List.getElem_cons_succ, List.getElem_cons_zero, Act.put, List.setIfInBounds_toArray, List.set_cons_zero, List.set_cons_succ]
      refine wpAnyH_take (i := 3) (v := ?_) rfl (by kernel_rfl) (by kernel_rfl) (by kernel_rfl) (fun _ _ _ h => h) (Or.inl ⟨by rfl, ?_⟩) (by assumption) ?_
      rotate_left
      · (intro w hSw; (try dsimp only at hSw); go_simp; (try with_reducible rfl))
      try simp only [List.getElem_toArray, List.getElem_cons_succ, List.getElem_cons_zero, Act.put, List.setIfInBounds_toArray, List.set_cons_zero, List.set_cons_succ]
      refine wpAnyH_take (i := 4) (v := ?_) rfl (by kernel_rfl) (by kernel_rfl) (by kernel_rfl) (fun _ _ _ h => h) (Or.inl ⟨by rfl, ?_⟩) (by assumption) ?_
      rotate_left
      · (intro w hSw; (try dsimp only at hSw); go_simp; (try with_reducible rfl))
      try simp only [List.getElem_toArray, List.getElem_cons_succ, List.getElem_cons_zero, Act.put, List.setIfInBounds_toArray, List.set_cons_zero, List.set_cons_succ]
      refine wpAnyH_take (i := 5) (v := ?_) rfl (by kernel_rfl) (by kernel_rfl) (by kernel_rfl) (fun _ _ _ h => h) (Or.inl ⟨by rfl, ?_⟩) (by assumption) ?_
      rotate_left
      · (intro w hSw; (try dsimp only at hSw); go_simp; (try with_reducible rfl))
      try simp only [List.getElem_toArray, List.getElem_cons_succ, List.getElem_cons_zero, Act.put, List.setIfInBounds_toArray, List.set_cons_zero, List.set_cons_succ]
      refine wpAnyH_take (i := 6) (v := ?_) rfl (by kernel_rfl) (by kernel_rfl) (by kernel_rfl) (fun _ _ _ h => h) (Or.inl ⟨by rfl, ?_⟩) (by assumption) ?_
      rotate_left
      · (intro w hSw; (try dsimp only at hSw); go_simp; (try with_reducible rfl))
      try simp only [List.getElem_toArray, List.getElem_cons_succ, List.getElem_cons_zero, Act.put, List.setIfInBounds_toArray, List.set_cons_zero, List.set_cons_succ]
      refine wpAnyH_take (i := 7) (v := ?_) rfl (by kernel_rfl) (by kernel_rfl) (by kernel_rfl) (fun _ _ _ h => h) (Or.inl ⟨by rfl, ?_⟩) (by assumption) ?_
      rotate_left
      · (intro w hSw; (try dsimp only at hSw); go_simp; (try with_reducible rfl))
      try simp only [List.getElem_toArray, List.getElem_cons_succ, List.getElem_cons_zero, Act.put, List.setIfInBounds_toArray, List.set_cons_zero, List.set_cons_succ]
      refine wpAnyH_ready (rs := [8]) (by kernel_rfl) (by simp) (AllReadyH.cons rfl (fun K hK => ?_) AllReadyH.nil)
      go_simp
      refine (HCALL.out _).mono ?_
      rintro e w2 ⟨rfl, b2⟩
      have HD2 := Lib.hid (below_two HD.out b2); clear b2
      go_wp2_with fail
      refine hK.out _ _ ?_ (fun hHeld => ?_)
      · exact ⟨HXW.out _ HD2.out, HYW.out _ HD2.out⟩
      clear hK K
      try simp only [List.getElem_toArray, List.getElem_cons_succ, List.getElem_cons_zero, Act.put, List.setIfInBounds_toArray, List.set_cons_zero, List.set_cons_succ]
      refine wpAnyH_take (i := 9) (v := ?_) rfl (by kernel_rfl) (by kernel_rfl) (by kernel_rfl) (fun _ _ _ h => h) (Or.inl ⟨by rfl, ?_⟩) (by assumption) ?_
      rotate_left
      · (intro w hSw; (try dsimp only at hSw); go_simp; (try with_reducible rfl))
      try simp only [List.getElem_toArray, List.getElem_cons_succ, List.getElem_cons_zero, Act.put, List.setIfInBounds_toArray, List.set_cons_zero, List.set_cons_succ]
      refine wpAnyH_done (by kernel_rfl) ?_ _
      have HBE := Lib.hid (below_two HB.out HD2.out)
      go_wp2_with fail
      go_roundw
      case rel => exact ⟨k + 1, by omega, by go_num, HBE.out⟩
      case measure => simp [intOf]; omega
    · have hkn : k = n := by omega
      subst hkn
      have HB := Lib.hid hb; clear hb
      go_wp2_with fail
      go_ret
      exact ⟨rfl, HB.out⟩
set_option maxHeartbeats 1000000 in
set_option maxRecDepth 100000 in
set_option linter.unusedSimpArgs false in
/-- laws.likeSlots of one list read twice. -/
theorem likeSlots_yes (ao bo : Option Addr) (n c d : Nat) (t : List Sl) (w : World) (hx : RdE w ao n t) (hy : RdE w bo n t) (hn : n ≤ 9223372036854775807) (hc : n ≤ c) (hd : n ≤ d) :
    Calls Try.prog 44 #[.slice ao n c, .slice bo n d] w fun e w' => e = .returned (.bool true) ∧ Below w.heap.size w w' := by
  have HX := Lib.hid hx; have HY := Lib.hid hy; clear hx hy
  have hne : ((n : Int) != (n : Int)) = false := by simp
  go_enter Try.func44, Try.ntmps44
  go_wp2_with fail
  clear hne
  go_loopw [5] (fun i wr => ∃ k : Nat, k ≤ n ∧ i = .int .i64 k ∧ Below w.heap.size w wr) (fun i _ => n - (intOf i).toNat)
  case atStart => exact ⟨0, Nat.zero_le _, rfl, Below.refl _ _⟩
  case round =>
    obtain ⟨k, hk, rfl, hb⟩ := hrel
    by_cases hlt : k < n
    · obtain ⟨g, off, rfl, hg, hx⟩ := HX.out.at hlt
      obtain ⟨g', off', rfl, hg', hy⟩ := HY.out.at hlt
      replace hx := hx.below hb hg
      replace hy := hy.below hb hg'
      have HB := Lib.hid hb; clear hb
      obtain ⟨x, hxe⟩ : ∃ x, x = slOf t k := ⟨_, rfl⟩
      rw [← hxe] at hx hy
      clear hxe
      have HXW := Lib.hid (fun W (hW : Below wr.heap.size wr W) => (hx.below hW hx.lt).all8)
      have HYW := Lib.hid (fun W (hW : Below wr.heap.size wr W) => (hy.below hW hy.lt).all8)
      have HD := Lib.hid (show Below wr.heap.size wr wr.drew from Below.drew (Below.refl _ _))
      clear hx hy hg hg'
      have hneq : ∀ W, (binOp .neq 93 (.agg #[.int .i64 x.mode, .int .i64 x.round, .int .i64 x.slot, .int .i64 x.desc.node, .int .i64 x.desc.kind, .int .i64 x.desc.size, .int .i64 x.desc.dur, .bool x.desc.chg]) (.agg #[.int .i64 x.mode, .int .i64 x.round, .int .i64 x.slot, .int .i64 x.desc.node, .int .i64 x.desc.kind, .int .i64 x.desc.size, .int .i64 x.desc.dur, .bool x.desc.chg])).run Try.prog W = .ok (.bool false) W := fun W => sl_neq x W
      go_upto_region 6 with fail
      refine wp_region_held_drew (S := fun w' => (w'.cell? ⟨g, off + k * 8, none⟩ = some (Value.int .i64 x.mode) ∧ w'.cell? ⟨g, off + k * 8 + 1, none⟩ = some (Value.int .i64 x.round) ∧ w'.cell? ⟨g, off + k * 8 + 2, none⟩ = some (Value.int .i64 x.slot) ∧ w'.cell? ⟨g, off + k * 8 + 3, none⟩ = some (Value.int .i64 x.desc.node) ∧ w'.cell? ⟨g, off + k * 8 + 4, none⟩ = some (Value.int .i64 x.desc.kind) ∧ w'.cell? ⟨g, off + k * 8 + 5, none⟩ = some (Value.int .i64 x.desc.size) ∧ w'.cell? ⟨g, off + k * 8 + 6, none⟩ = some (Value.int .i64 x.desc.dur) ∧ w'.cell? ⟨g, off + k * 8 + 7, none⟩ = some (Value.bool x.desc.chg)) ∧ (w'.cell? ⟨g', off' + k * 8, none⟩ = some (Value.int .i64 x.mode) ∧ w'.cell? ⟨g', off' + k * 8 + 1, none⟩ = some (Value.int .i64 x.round) ∧ w'.cell? ⟨g', off' + k * 8 + 2, none⟩ = some (Value.int .i64 x.slot) ∧ w'.cell? ⟨g', off' + k * 8 + 3, none⟩ = some (Value.int .i64 x.desc.node) ∧ w'.cell? ⟨g', off' + k * 8 + 4, none⟩ = some (Value.int .i64 x.desc.kind) ∧ w'.cell? ⟨g', off' + k * 8 + 5, none⟩ = some (Value.int .i64 x.desc.size) ∧ w'.cell? ⟨g', off' + k * 8 + 6, none⟩ = some (Value.int .i64 x.desc.dur) ∧ w'.cell? ⟨g', off' + k * 8 + 7, none⟩ = some (Value.bool x.desc.chg))) (by kernel_rfl) (⟨HXW.out _ HD.out, HYW.out _ HD.out⟩) (fun hHeld => ?_)
      generalize wr.drew = w1 at HD hHeld ⊢
      refine wpAnyH_take (i := 0) (v := ?_) rfl (by kernel_rfl) (by kernel_rfl) (by kernel_rfl) (fun _ _ _ h => h) (Or.inl ⟨by rfl, ?_⟩) (by assumption) ?_
      rotate_left
      · (intro w hSw; (try dsimp only at hSw); go_simp; (try with_reducible rfl))
      try simp only [List.getElem_toArray, List.getElem_cons_succ, List.getElem_cons_zero, Act.put, List.setIfInBounds_toArray, List.set_cons_zero, List.set_cons_succ]
      refine wpAnyH_take (i := 1) (v := ?_) rfl (by kernel_rfl) (by kernel_rfl) (by kernel_rfl) (fun _ _ _ h => h) (Or.inl ⟨by rfl, ?_⟩) (by assumption) ?_
      rotate_left
      · (intro w hSw; (try dsimp only at hSw); go_simp; (try with_reducible rfl))
      try simp only [List.getElem_toArray, List.getElem_cons_succ, List.getElem_cons_zero, Act.put, List.setIfInBounds_toArray, List.set_cons_zero, List.set_cons_succ]
      refine wpAnyH_take (i := 2) (v := ?_) rfl (by kernel_rfl) (by kernel_rfl) (by kernel_rfl) (fun _ _ _ h => h) (Or.inl ⟨by rfl, ?_⟩) (by assumption) ?_
      rotate_left
      · (intro w hSw; (try dsimp only at hSw); go_simp; (try with_reducible rfl))
      try simp only [List.getElem_toArray, List.getElem_cons_succ, List.getElem_cons_zero, Act.put, List.setIfInBounds_toArray, List.set_cons_zero, List.set_cons_succ]
      refine wpAnyH_take (i := 3) (v := ?_) rfl (by kernel_rfl) (by kernel_rfl) (by kernel_rfl) (fun _ _ _ h => h) (Or.inl ⟨by rfl, ?_⟩) (by assumption) ?_
      rotate_left
      · (intro w hSw; (try dsimp only at hSw); go_simp; (try with_reducible rfl))
      try simp only [List.getElem_toArray, List.getElem_cons_succ, List.getElem_cons_zero, Act.put, List.setIfInBounds_toArray, List.set_cons_zero, List.set_cons_succ]
      refine wpAnyH_take (i := 4) (v := ?_) rfl (by kernel_rfl) (by kernel_rfl) (by kernel_rfl) (fun _ _ _ h => h) (Or.inl ⟨by rfl, ?_⟩) (by assumption) ?_
      rotate_left
      · (intro w hSw; (try dsimp only at hSw); go_simp; (try with_reducible rfl))
      try simp only [List.getElem_toArray, List.getElem_cons_succ, List.getElem_cons_zero, Act.put, List.setIfInBounds_toArray, List.set_cons_zero, List.set_cons_succ]
      refine wpAnyH_take (i := 5) (v := ?_) rfl (by kernel_rfl) (by kernel_rfl) (by kernel_rfl) (fun _ _ _ h => h) (Or.inl ⟨by rfl, ?_⟩) (by assumption) ?_
      rotate_left
      · (intro w hSw; (try dsimp only at hSw); go_simp; (try with_reducible rfl))
      try simp only [List.getElem_toArray, List.getElem_cons_succ, List.getElem_cons_zero, Act.put, List.setIfInBounds_toArray, List.set_cons_zero, List.set_cons_succ]
      refine wpAnyH_take (i := 6) (v := ?_) rfl (by kernel_rfl) (by kernel_rfl) (by kernel_rfl) (fun _ _ _ h => h) (Or.inl ⟨by rfl, ?_⟩) (by assumption) ?_
      rotate_left
      · (intro w hSw; (try dsimp only at hSw); go_simp; (try with_reducible rfl))
      try simp only [List.getElem_toArray, List.getElem_cons_succ, List.getElem_cons_zero, Act.put, List.setIfInBounds_toArray, List.set_cons_zero, List.set_cons_succ]
      refine wpAnyH_take (i := 7) (v := ?_) rfl (by kernel_rfl) (by kernel_rfl) (by kernel_rfl) (fun _ _ _ h => h) (Or.inl ⟨by rfl, ?_⟩) (by assumption) ?_
      rotate_left
      · (intro w hSw; (try dsimp only at hSw); go_simp; (try with_reducible rfl))
      try simp only [List.getElem_toArray, List.getElem_cons_succ, List.getElem_cons_zero, Act.put, List.setIfInBounds_toArray, List.set_cons_zero, List.set_cons_succ]
      refine wpAnyH_take (i := 8) (v := ?_) rfl (by kernel_rfl) (by kernel_rfl) (by kernel_rfl) (fun _ _ _ h => h) (Or.inl ⟨by rfl, ?_⟩) (by assumption) ?_
      rotate_left
      · (intro w hSw; (try dsimp only at hSw); go_simp; (try with_reducible rfl))
      try simp only [List.getElem_toArray, List.getElem_cons_succ, List.getElem_cons_zero, Act.put, List.setIfInBounds_toArray, List.set_cons_zero, List.set_cons_succ]
      refine wpAnyH_done (by kernel_rfl) ?_ _
      have HBE := Lib.hid (below_two HB.out HD.out)
      go_wp2_with fail
      go_roundw
      case rel => exact ⟨k + 1, by omega, by go_num, HBE.out⟩
      case measure => simp [intOf]; omega
    · have hkn : k = n := by omega
      subst hkn
      have HB := Lib.hid hb; clear hb
      go_wp2_with fail
      go_ret
      exact ⟨rfl, HB.out⟩

/-! ### marked -/
def mkS (q : Int) (k : Nat) : Sl := ⟨q + 8 * k, q + 8 * k + 1, q + 8 * k + 2, ⟨q + 8 * k + 3, q + 8 * k + 4, q + 8 * k + 5, q + 8 * k + 6, (q + 8 * k + 7) % 3 == 0⟩⟩
def marksS (q : Int) (n : Nat) : List Sl := (List.range n).map (mkS q)
theorem marksS_len (q : Int) (n : Nat) : (marksS q n).length = n := by simp [marksS]
theorem marksS_at {q : Int} {n k : Nat} (h : k < n) : slOf (marksS q n) k = mkS q k := by
  rw [slOf_get (by rw [marksS_len]; exact h)]
  simp [marksS]
def markToS (q : Int) (t : List Sl) (k : Nat) : List Sl := marksS q k ++ t.drop k
theorem markToS_zero (q : Int) (t : List Sl) : markToS q t 0 = t := by simp [markToS, marksS]
theorem markToS_all (q : Int) (t : List Sl) : markToS q t t.length = marksS q t.length := by simp [markToS]
theorem markToS_len (q : Int) (t : List Sl) (k : Nat) (h : k ≤ t.length) : (markToS q t k).length = t.length := by
  unfold markToS; rw [List.length_append, marksS_len, List.length_drop]; omega
theorem markToS_succ (q : Int) (t : List Sl) (k : Nat) (h : k < t.length) : (markToS q t k).set k (mkS q k) = markToS q t (k + 1) := by
  unfold markToS
  rw [List.set_append_right _ _ (by rw [marksS_len]; exact Nat.le_refl _), marksS_len, Nat.sub_self, List.drop_eq_getElem_cons h, List.set_cons_zero]
  rw [show marksS q (k + 1) = marksS q k ++ [mkS q k] from by simp [marksS, List.range_succ]]
  simp
theorem mkS_eq {q : Int} {k K : Nat} (h : q + 8 * (k : Int) = (K : Int)) : mkS q k = ⟨(K : Int), (K : Int) + 1, (K : Int) + 1 + 1, ⟨(K : Int) + 1 + 1 + 1, (K : Int) + 1 + 1 + 1 + 1, (K : Int) + 1 + 1 + 1 + 1 + 1, (K : Int) + 1 + 1 + 1 + 1 + 1 + 1, ((K : Int) + 1 + 1 + 1 + 1 + 1 + 1 + 1) % 3 == 0⟩⟩ := by
  unfold mkS
  rw [h, show (K : Int) + 2 = (K : Int) + 1 + 1 from by omega, show (K : Int) + 3 = (K : Int) + 1 + 1 + 1 from by omega, show (K : Int) + 4 = (K : Int) + 1 + 1 + 1 + 1 from by omega, show (K : Int) + 5 = (K : Int) + 1 + 1 + 1 + 1 + 1 from by omega, show (K : Int) + 6 = (K : Int) + 1 + 1 + 1 + 1 + 1 + 1 from by omega, show (K : Int) + 7 = (K : Int) + 1 + 1 + 1 + 1 + 1 + 1 + 1 from by omega]
theorem grown_setSl (w : World) (g off : Nat) (x : Sl) : w.grownBy (setSl w g off x) (some g) := by
  unfold setSl
  exact grown_trans (grown_trans (grown_trans (grown_trans (grown_trans (grown_trans (grown_trans (grown_set w g off _) (grown_set _ g _ _)) (grown_set _ g _ _)) (grown_set _ g _ _)) (grown_set _ g _ _)) (grown_set _ g _ _)) (grown_set _ g _ _)) (grown_set _ g _ _)
set_option maxHeartbeats 4000000 in
set_option maxRecDepth 100000 in
theorem markSlots_row (g n cap base : Nat) (t : List Sl) (q : Int) (w : World) (hl : t.length = n) (ho : OwnE 93 w base (.slice (some ⟨g, 0, none⟩) n cap) t) (hn : n ≤ 4194304) (hq0 : 1 ≤ q) (hq1 : q ≤ 16777216) :
    Calls Try.prog 48 #[.slice (some ⟨g, 0, none⟩) n cap, .int .i64 q] w fun e w' => e = .returned (.int .i64 (q + 8 * n)) ∧ OwnE 93 w' base (.slice (some ⟨g, 0, none⟩) n cap) (marksS q n) ∧ w.grownBy w' (some g) := by
  have HL := Lib.hid hl
  have ho' : OwnE 93 w base (.slice (some ⟨g, 0, none⟩) n cap) (markToS q t 0) := by rw [markToS_zero]; exact ho
  have HO := Lib.hid ho'; clear ho ho'
  go_enter Try.func48, Try.ntmps48
  go_wp2_with fail
  go_loopw [1, 5] (fun v i wr => ∃ k : Nat, k ≤ n ∧ i = .int .i64 k ∧ v = .int .i64 (q + 8 * k) ∧ Hid (OwnE 93 wr base (.slice (some ⟨g, 0, none⟩) n cap) (markToS q t k)) ∧ Hid (w.grownBy wr (some g))) (fun _ i _ => n - (intOf i).toNat)
  case atStart => exact ⟨0, Nat.zero_le _, rfl, by simp, HO.out, World.grownBy.refl _ _⟩
  case round =>
    clear HO
    obtain ⟨k, hk, rfl, rfl, ho, HG⟩ := hrel
    by_cases hlt : k < n
    · have hkt : k < t.length := by rw [HL.out]; exact hlt
      obtain ⟨K, hK⟩ : ∃ K : Nat, K = (q + 8 * k).toNat := ⟨_, rfl⟩
      have hKi : q + 8 * (k : Int) = (K : Int) := by omega
      have hK0 : 0 < K := by omega
      have hK1 : K ≤ 67108864 := by omega
      have HNEXT := Lib.hid (show q + 8 * ((k + 1 : Nat) : Int) = (K : Int) + 1 + 1 + 1 + 1 + 1 + 1 + 1 + 1 from by omega)
      obtain ⟨hin, hfz, hst, -⟩ := ho.out.store ((markToS_len q t k (by omega)).trans HL.out) hlt (mkS q k)
      rw [markToS_succ q t k hkt, mkS_eq hKi] at hst
      have HST := Lib.hid hst
      have HG2 := Lib.hid (grown_trans HG.out (grown_setSl wr g (k * 8) ⟨(K : Int), (K : Int) + 1, (K : Int) + 1 + 1, ⟨(K : Int) + 1 + 1 + 1, (K : Int) + 1 + 1 + 1 + 1, (K : Int) + 1 + 1 + 1 + 1 + 1, (K : Int) + 1 + 1 + 1 + 1 + 1 + 1, ((K : Int) + 1 + 1 + 1 + 1 + 1 + 1 + 1) % 3 == 0⟩⟩))
      rw [hKi]
      generalize slOf (markToS q t k) k = z at hin
      obtain ⟨z0, z1, z2, z3, z4, z5, z6, z7⟩ := hin
      clear hst hK hKi hkt ho HG
      go_wp2_with fail
      clear z0 z1 z2 z3 z4 z5 z6 z7 hfz
      go_roundw
      case rel => exact ⟨k + 1, by omega, by go_num, by rw [HNEXT.out], HST, HG2⟩
      case measure => simp [intOf]; omega
    · have hkn : k = n := by omega
      subst hkn
      go_wp2_with fail
      go_ret
      exact ⟨rfl, by have h := ho.out; rw [← HL.out, markToS_all] at h; rw [HL.out] at h; exact h, HG.out⟩
/-- laws.markSlotInfoS of a slice of the call's own, a nil one too. -/
theorem markSlots_any (ao : Option Addr) (n cap base : Nat) (t : List Sl) (q : Int) (w : World) (hl : t.length = n) (ho : OwnE 93 w base (.slice ao n cap) t) (hn : n ≤ 4194304) (hq0 : 1 ≤ q) (hq1 : q ≤ 16777216) :
    Calls Try.prog 48 #[.slice ao n cap, .int .i64 q] w fun e w' => e = .returned (.int .i64 (q + 8 * n)) ∧ OwnE 93 w' base (.slice ao n cap) (marksS q n) ∧ w.grownBy w' (Value.ownBlock (.slice ao n cap)) := by
  obtain ⟨ao', cap', e, -, -, -, hcase⟩ := ho.form
  rw [hl] at e
  cases e
  rcases hcase with hnil | ⟨g, rfl, -, -⟩
  · simp only [Value.slice.injEq] at hnil
    obtain ⟨rfl, rfl, rfl⟩ := hnil
    clear ho
    go_enter Try.func48, Try.ntmps48
    go_wp2
    refine wp_loop_rounds 1 ?_
    rw [rounds_succ]
    go_wp2
    go_ret
    exact ⟨ret_int (by simp), OwnE.nil_, World.grownBy.refl _ _⟩
  · exact markSlots_row g n cap base t q w hl ho hn hq0 hq1
set_option maxHeartbeats 4000000 in
set_option maxRecDepth 100000 in
/-- laws.heldSlotInfoS of marks. -/
theorem heldSlots_yes (ao : Option Addr) (n cap : Nat) (q : Int) (w : World) (hr : RdE w ao n (marksS q n)) (hn : n ≤ 4194304) (hq0 : 1 ≤ q) (hq1 : q ≤ 16777216) :
    Calls Try.prog 49 #[.slice ao n cap, .int .i64 q] w fun e w' => e = .returned (.int .i64 (q + 8 * n)) ∧ Below w.heap.size w w' := by
  have HR := Lib.hid hr; clear hr
  go_enter Try.func49, Try.ntmps49
  go_wp2_with fail
  go_loopw [1, 5] (fun v i wr => ∃ k : Nat, k ≤ n ∧ i = .int .i64 k ∧ v = .int .i64 (q + 8 * k) ∧ Hid (Below w.heap.size w wr)) (fun _ i _ => n - (intOf i).toNat)
  case atStart => exact ⟨0, Nat.zero_le _, rfl, by simp, Below.refl _ _⟩
  case round =>
    obtain ⟨k, hk, rfl, rfl, HB⟩ := hrel
    by_cases hlt : k < n
    · obtain ⟨g, off, rfl, hg, hx⟩ := HR.out.at hlt
      rw [marksS_at hlt] at hx
      replace hx := hx.below HB.out hg
      obtain ⟨K, hK⟩ : ∃ K : Nat, K = (q + 8 * k).toNat := ⟨_, rfl⟩
      have hKi : q + 8 * (k : Int) = (K : Int) := by omega
      have hK0 : 0 < K := by omega
      have hK1 : K ≤ 67108864 := by omega
      have HNEXT := Lib.hid (show q + 8 * ((k + 1 : Nat) : Int) = (K : Int) + 1 + 1 + 1 + 1 + 1 + 1 + 1 + 1 from by omega)
      rw [mkS_eq hKi] at hx
      rw [hKi]
      obtain ⟨h0, h1, h2, h3, h4, h5, h6, h7⟩ := hx
      clear hK hKi hg
      have n0 : ((K : Int) != (K : Int)) = false := by simp
      go_wp2_with fail
      clear h0 h1 h2 h3 h4 h5 h6 h7 n0
      go_roundw
      case rel => exact ⟨k + 1, by omega, by go_num, by rw [HNEXT.out], HB⟩
      case measure => simp [intOf]; omega
    · have hkn : k = n := by omega
      subst hkn
      go_wp2_with fail
      go_ret
      exact ⟨rfl, HB.out⟩
end

section
open Go
theorem isSls_le {t : List Sl} (h : isSls t = true) : t.length ≤ 120 := (isSls_iff.1 h).1
theorem slotTableBytes_small (t : List Sl) : (slotTableBytes t).1.length ≤ 1048576 := by
  unfold slotTableBytes
  split
  · rename_i h; have := isSls_le h; rw [slotBytes_len]; omega
  · simp
theorem slotsOfNode_small (t : List Sl) (n : Int) : (slotsOfNode t n).1.length ≤ 1048576 := by
  unfold slotsOfNode
  cases h : isSls t
  · simp
  · have := isSls_le h
    simp only [Bool.true_eq_false, if_false]
    rw [nodeTo_len]
    exact Nat.le_trans (List.length_filter_le _ _) (by omega)
theorem insertSlot_small (t : List Sl) (x : Sl) : (insertSlot t x).1.length ≤ 1048576 := by
  unfold insertSlot
  cases h : isSls t
  · simp
  · have h1 := isSls_le h
    simp only [Bool.true_eq_false, if_false]
    repeat' split
    all_goals first | simp | skip
    have a := List.length_filter_le (fun y => decide (cmpSl y x < 0)) t
    have b := List.length_filter_le (fun y => decide (0 < cmpSl y x)) t
    unfold before behind
    omega
theorem readSlots_small {xs : List Int} {p : List Sl × Nat} (h : readSlots xs = some p) : p.1.length ≤ 1048576 := by
  unfold readSlots at h
  split at h
  · cases h
  · obtain ⟨t, h1, h2⟩ := Option.bind_eq_some_iff.1 h
    split at h2
    · rename_i hc
      cases h2
      have := isSls_le hc
      simp only
      omega
    · cases h2
theorem readSlotTable_small (xs : List Int) : (readSlotTable xs).1.length ≤ 1048576 := by
  unfold readSlotTable
  split
  · simp
  · split
    · simp
    · rename_i p hp
      exact readSlots_small hp
end

section
open Go.RowKit
/-- Two boxes read in a later world. -/
theorem two16 {T b1 b2 : Nat} {w W : World} {x y : Sl} (hW : Below w.heap.size w W) (h1 : SlBk T w b1 x) (h2 : SlBk T w b2 y) :
    W.cell? ⟨b1, 0, none⟩ = some (Value.int .i64 x.mode) ∧ W.cell? ⟨b1, 1, none⟩ = some (Value.int .i64 x.round) ∧ W.cell? ⟨b1, 2, none⟩ = some (Value.int .i64 x.slot) ∧ W.cell? ⟨b1, 3, none⟩ = some (Value.int .i64 x.desc.node) ∧ W.cell? ⟨b1, 4, none⟩ = some (Value.int .i64 x.desc.kind) ∧ W.cell? ⟨b1, 5, none⟩ = some (Value.int .i64 x.desc.size) ∧ W.cell? ⟨b1, 6, none⟩ = some (Value.int .i64 x.desc.dur) ∧ W.cell? ⟨b1, 7, none⟩ = some (Value.bool x.desc.chg) ∧ W.cell? ⟨b2, 0, none⟩ = some (Value.int .i64 y.mode) ∧ W.cell? ⟨b2, 1, none⟩ = some (Value.int .i64 y.round) ∧ W.cell? ⟨b2, 2, none⟩ = some (Value.int .i64 y.slot) ∧ W.cell? ⟨b2, 3, none⟩ = some (Value.int .i64 y.desc.node) ∧ W.cell? ⟨b2, 4, none⟩ = some (Value.int .i64 y.desc.kind) ∧ W.cell? ⟨b2, 5, none⟩ = some (Value.int .i64 y.desc.size) ∧ W.cell? ⟨b2, 6, none⟩ = some (Value.int .i64 y.desc.dur) ∧ W.cell? ⟨b2, 7, none⟩ = some (Value.bool y.desc.chg) := by
  obtain ⟨a0, a1, a2, a3, a4, a5, a6, a7⟩ := (h1.below hW h1.lt).all8
  obtain ⟨c0, c1, c2, c3, c4, c5, c6, c7⟩ := (h2.below hW h2.lt).all8
  exact ⟨a0, a1, a2, a3, a4, a5, a6, a7, c0, c1, c2, c3, c4, c5, c6, c7⟩
end
end Go.Proofs.Ytpedlofckbplmaa
