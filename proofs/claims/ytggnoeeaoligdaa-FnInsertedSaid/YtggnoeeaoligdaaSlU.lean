/-
  Chapter 12: the laws' functions on slot entries: made, measured, compared, marked, found again.
  Over slots: how long the results are.
  Two boxes of slots read in a later world.
-/
import Derived.Test.YtggnoeeaoligdaaSlR
import Derived.Test.YtggnoeeaoligdaaEigA
import Derived.Test.YtggnoeeaoligdaaSlA
namespace Go.Proofs.Ytggnoeeaoligdaa
section
open Go.RowKit

structure ToSt (w W : World) (x y : Sl) : Prop where
  box : SlBk 65 W w.heap.size x
  res : SlBk 38 W (w.heap.size + 1) Sl.zero
  var : SlBk 38 W (w.heap.size + 2) y
  below : Below w.heap.size w W
theorem ToSt.start (w : World) (x : Sl) : ToSt w (((w.alloc (.cells #[.int .i64 x.mode, .int .i64 x.round, .int .i64 x.slot, .int .i64 x.desc.node, .int .i64 x.desc.kind, .int .i64 x.desc.size, .int .i64 x.desc.dur, .bool x.desc.chg] 65)).alloc (.cells #[.int .i64 0, .int .i64 0, .int .i64 0, .int .i64 0, .int .i64 0, .int .i64 0, .int .i64 0, .bool false] 38)).alloc (.cells #[.int .i64 0, .int .i64 0, .int .i64 0, .int .i64 0, .int .i64 0, .int .i64 0, .int .i64 0, .bool false] 38)) x Sl.zero := by
  have b1 : Below (w.alloc (.cells #[.int .i64 x.mode, .int .i64 x.round, .int .i64 x.slot, .int .i64 x.desc.node, .int .i64 x.desc.kind, .int .i64 x.desc.size, .int .i64 x.desc.dur, .bool x.desc.chg] 65)).heap.size (w.alloc (.cells #[.int .i64 x.mode, .int .i64 x.round, .int .i64 x.slot, .int .i64 x.desc.node, .int .i64 x.desc.kind, .int .i64 x.desc.size, .int .i64 x.desc.dur, .bool x.desc.chg] 65)) ((w.alloc (.cells #[.int .i64 x.mode, .int .i64 x.round, .int .i64 x.slot, .int .i64 x.desc.node, .int .i64 x.desc.kind, .int .i64 x.desc.size, .int .i64 x.desc.dur, .bool x.desc.chg] 65)).alloc (.cells #[.int .i64 0, .int .i64 0, .int .i64 0, .int .i64 0, .int .i64 0, .int .i64 0, .int .i64 0, .bool false] 38)) := (Below.refl _ _).alloc (Nat.le_refl _) _
  have b2 : Below ((w.alloc (.cells #[.int .i64 x.mode, .int .i64 x.round, .int .i64 x.slot, .int .i64 x.desc.node, .int .i64 x.desc.kind, .int .i64 x.desc.size, .int .i64 x.desc.dur, .bool x.desc.chg] 65)).alloc (.cells #[.int .i64 0, .int .i64 0, .int .i64 0, .int .i64 0, .int .i64 0, .int .i64 0, .int .i64 0, .bool false] 38)).heap.size ((w.alloc (.cells #[.int .i64 x.mode, .int .i64 x.round, .int .i64 x.slot, .int .i64 x.desc.node, .int .i64 x.desc.kind, .int .i64 x.desc.size, .int .i64 x.desc.dur, .bool x.desc.chg] 65)).alloc (.cells #[.int .i64 0, .int .i64 0, .int .i64 0, .int .i64 0, .int .i64 0, .int .i64 0, .int .i64 0, .bool false] 38)) (((w.alloc (.cells #[.int .i64 x.mode, .int .i64 x.round, .int .i64 x.slot, .int .i64 x.desc.node, .int .i64 x.desc.kind, .int .i64 x.desc.size, .int .i64 x.desc.dur, .bool x.desc.chg] 65)).alloc (.cells #[.int .i64 0, .int .i64 0, .int .i64 0, .int .i64 0, .int .i64 0, .int .i64 0, .int .i64 0, .bool false] 38)).alloc (.cells #[.int .i64 0, .int .i64 0, .int .i64 0, .int .i64 0, .int .i64 0, .int .i64 0, .int .i64 0, .bool false] 38)) := (Below.refl _ _).alloc (Nat.le_refl _) _
  have h1 := SlBk.new (T := 38) (x := Sl.zero) (w.alloc (.cells #[.int .i64 x.mode, .int .i64 x.round, .int .i64 x.slot, .int .i64 x.desc.node, .int .i64 x.desc.kind, .int .i64 x.desc.size, .int .i64 x.desc.dur, .bool x.desc.chg] 65))
  rw [World.size_alloc] at h1
  have h2 := SlBk.new (T := 38) (x := Sl.zero) ((w.alloc (.cells #[.int .i64 x.mode, .int .i64 x.round, .int .i64 x.slot, .int .i64 x.desc.node, .int .i64 x.desc.kind, .int .i64 x.desc.size, .int .i64 x.desc.dur, .bool x.desc.chg] 65)).alloc (.cells #[.int .i64 0, .int .i64 0, .int .i64 0, .int .i64 0, .int .i64 0, .int .i64 0, .int .i64 0, .bool false] 38))
  rw [World.size_alloc, World.size_alloc] at h2
  exact ⟨((SlBk.new w).below b1 (by simp)).below b2 (by simp; omega), h1.below b2 (by simp), h2, below_two ((Below.refl _ _).alloc (Nat.le_refl _) _) (below_two b1 b2)⟩
theorem ToSt.call {w W W' : World} {x y : Sl} (h : ToSt w W x y) (b : Below W.heap.size W W') : ToSt w W' x y := ⟨h.box.below b h.box.lt, h.res.below b h.res.lt, h.var.below b h.var.lt, below_two h.below b⟩
theorem ToSt.put {w W W' : World} {x y z : Sl} (h : ToSt w W x y) (b : Below (w.heap.size + 2) W W') (hv : SlBk 38 W' (w.heap.size + 2) z) : ToSt w W' x z := ⟨h.box.below b (by omega), h.res.below b (by omega), hv, h.below.trans (b.mono (by omega))⟩
set_option maxHeartbeats 1000000 in
set_option maxRecDepth 100000 in
theorem toSlot_any (x : Sl) (w : World) : Calls Try.prog 50 #[slVal x] w fun e w' => e = .returned (slVal x) ∧ Below w.heap.size w w' := by
  have HS := Lib.hid (ToSt.start w x)
  have HC := Lib.hid (fun W => toDescriptor_any x.desc.node x.desc.kind x.desc.size x.desc.dur x.desc.chg W)
  unfold slVal
  go_enter Try.func50, Try.ntmps50
  go_upto_region 2 with fail
  generalize ((w.alloc (.cells #[.int .i64 x.mode, .int .i64 x.round, .int .i64 x.slot, .int .i64 x.desc.node, .int .i64 x.desc.kind, .int .i64 x.desc.size, .int .i64 x.desc.dur, .bool x.desc.chg] 65)).alloc (.cells #[.int .i64 0, .int .i64 0, .int .i64 0, .int .i64 0, .int .i64 0, .int .i64 0, .int .i64 0, .bool false] 38)).alloc (.cells #[.int .i64 0, .int .i64 0, .int .i64 0, .int .i64 0, .int .i64 0, .int .i64 0, .int .i64 0, .bool false] 38) = w1 at HS ⊢
  obtain ⟨q0, q1, q2, q3, q4, q5, q6, q7⟩ := HS.out.box.all8
  have hv := HS.out.var.all8
  try dsimp only [Sl.zero, Ds.zero] at hv
  obtain ⟨d0, d1, d2, -⟩ := hv
  have f0 := HS.out.var.f 0; have f1 := HS.out.var.f 1; have f2 := HS.out.var.f 2
  have HS2 := Lib.hid (HS.out.put (((((Below.refl _ _).setCell (by exact Nat.le_refl _) _).setCell (by exact Nat.le_refl _) _).setCell (by exact Nat.le_refl _) _)) (((HS.out.var.set0 x.mode).set1 x.round).set2 x.slot))
  go_upto_region 5 with fail
  clear q0 q1 q2 q3 q4 q5 q6 q7 d0 d1 d2 f0 f1 f2
  generalize ((w1.setCell ⟨w.heap.size + 2, 0, none⟩ (.int .i64 x.mode)).setCell ⟨w.heap.size + 2, 1, none⟩ (.int .i64 x.round)).setCell ⟨w.heap.size + 2, 2, none⟩ (.int .i64 x.slot) = w2 at HS2 ⊢
  clear HS
  obtain ⟨q0, q1, q2, q3, q4, q5, q6, q7⟩ := HS2.out.box.all8
  go_wp2_with fail
  refine (HC.out _).mono ?_
  rintro e w3 ⟨rfl, b3⟩
  have HS3 := Lib.hid (HS2.out.call b3)
  clear b3 q0 q1 q2 q3 q4 q5 q6 q7 HS2
  have hv := HS3.out.var.all8
  try dsimp only [Sl.zero, Ds.zero] at hv
  obtain ⟨-, -, -, d3, d4, d5, d6, d7⟩ := hv
  have f3 := HS3.out.var.f 3; have f4 := HS3.out.var.f 4; have f5 := HS3.out.var.f 5; have f6 := HS3.out.var.f 6; have f7 := HS3.out.var.f 7
  have HS4 := Lib.hid (HS3.out.put (below_slD (Nat.le_refl _) x.desc) (HS3.out.var.setD x.desc))
  go_upto_region 6 with fail
  clear d3 d4 d5 d6 d7 f3 f4 f5 f6 f7
  change Code.wp _ _ _ _ (setSlD w3 (w.heap.size + 2) x.desc)
  generalize setSlD w3 (w.heap.size + 2) x.desc = w4 at HS4 ⊢
  clear HS3
  have hv := HS4.out.var.all8
  try dsimp only at hv
  obtain ⟨q0, q1, q2, q3, q4, q5, q6, q7⟩ := hv
  have hr := HS4.out.res.all8
  dsimp only [Sl.zero, Ds.zero] at hr
  obtain ⟨d0, d1, d2, d3, d4, d5, d6, d7⟩ := hr
  have f0 := HS4.out.res.f 0; have f1 := HS4.out.res.f 1; have f2 := HS4.out.res.f 2; have f3 := HS4.out.res.f 3; have f4 := HS4.out.res.f 4; have f5 := HS4.out.res.f 5; have f6 := HS4.out.res.f 6; have f7 := HS4.out.res.f 7
  go_wp2_with fail
  clear d0 d1 d2 d3 d4 d5 d6 d7 f0 f1 f2 f3 f4 f5 f6 f7 q0 q1 q2 q3 q4 q5 q6 q7
  change bodyPost _ _ _ _ _ (setSl w4 (w.heap.size + 1) 0 x)
  have SF := HS4.out.res.put x
  have BF := HS4.out.below.trans (below_setSl (B := w.heap.size) (w := w4) (off := 0) (Nat.le_succ _) x)
  generalize setSl w4 (w.heap.size + 1) 0 x = wz at SF BF ⊢
  obtain ⟨e0, e1, e2, e3, e4, e5, e6, e7⟩ := SF.all8
  exact bodyPost_ret (v := slVal x) (by simp [slVal, results, Try.results50, go_sem, e0, e1, e2, e3, e4, e5, e6, e7]) rfl ⟨rfl, BF⟩
def fillL (t : List Sl) (k : Nat) : List Sl := t.take k ++ List.replicate (t.length - k) Sl.zero
theorem fillL_len (t : List Sl) (k : Nat) (hk : k ≤ t.length) : (fillL t k).length = t.length := by
  unfold fillL; rw [List.length_append, List.length_take, List.length_replicate]; omega
theorem fillL_zero (t : List Sl) : fillL t 0 = List.replicate t.length Sl.zero := by simp [fillL]
theorem fillL_all (t : List Sl) : fillL t t.length = t := by simp [fillL]
theorem fillL_succ (t : List Sl) (k : Nat) (hk : k < t.length) : (fillL t k).set k (slOf t k) = fillL t (k + 1) := by
  have hm : min k t.length = k := by omega
  unfold fillL
  rw [slOf_get hk, List.take_succ_eq_append_getElem hk, List.set_append_right _ _ (by rw [List.length_take]; omega)]
  rw [show t.length - k = (t.length - (k + 1)) + 1 from by omega, List.replicate_succ, List.length_take, hm, Nat.sub_self, List.set_cons_zero]
  rw [List.append_assoc]; rfl
set_option maxHeartbeats 1000000 in
set_option maxRecDepth 100000 in
/-- laws.toSlotInfoS: a copy in new memory. -/
theorem toSlots_any (ao : Option Addr) (n cap : Nat) (t : List Sl) (w : World) (hr : RdE w ao n t) (hn : n ≤ 1048576) :
    Calls Try.prog 41 #[.slice ao n cap] w (MakesE 38 w t) := by
  have HL := Lib.hid hr.len
  have HR := Lib.hid hr; clear hr
  go_enter Try.func41, Try.ntmps41
  go_wp2_with (at_make; refine make_sl _ rfl _ _ rfl w.heap.size Try.underlying24 infoSl _ _ _ _ n rfl rfl rfl rfl (by omega) (Nat.le_refl _) ?_; intro w1 o1 b1)
  have o1' : OwnE 38 w1 w.heap.size (.slice (some ⟨w.heap.size, 0, none⟩) n n) (fillL t 0) := by rw [fillL_zero, HL.out]; exact o1
  clear o1
  go_loopw [4] (fun i wr => ∃ k : Nat, k ≤ n ∧ i = .int .i64 k ∧ OwnE 38 wr w.heap.size (.slice (some ⟨w.heap.size, 0, none⟩) n n) (fillL t k) ∧ Below w.heap.size w wr) (fun i _ => n - (intOf i).toNat)
  case atStart => exact ⟨0, Nat.zero_le _, rfl, o1', b1⟩
  case round =>
    clear o1' b1
    obtain ⟨k, hk, rfl, hown, hb⟩ := hrel
    by_cases hlt : k < n
    · have hkt : k < t.length := by rw [HL.out]; exact hlt
      obtain ⟨g, off, rfl, hg, hx⟩ := HR.out.at hlt
      replace hx := hx.below hb hg
      have hfl := fillL_len t k (by omega)
      have hsucc := fillL_succ t k hkt
      obtain ⟨x, hxe⟩ : ∃ x, x = slOf t k := ⟨_, rfl⟩
      rw [← hxe] at hx hsucc
      have HSUCC := Lib.hid hsucc
      have HFL := Lib.hid (hfl.trans HL.out)
      have HOWN := Lib.hid hown; have HB := Lib.hid hb
      have HT := Lib.hid (fun W => toSlot_any x W)
      unfold slVal at HT
      clear hsucc hfl hown hb hxe hkt
      obtain ⟨h0, h1, h2, h3, h4, h5, h6, h7⟩ := hx
      go_wp2_with fail
      refine (HT.out _).mono ?_
      rintro e w2 ⟨rfl, b2⟩
      clear h0 h1 h2 h3 h4 h5 h6 h7
      have HB2 := Lib.hid (below_two HB.out b2)
      obtain ⟨hz, fz, hst, hbst⟩ := (HOWN.out.below b2).store HFL.out hlt x
      rw [HSUCC.out] at hst
      have HST := Lib.hid hst; have HBST := Lib.hid (HB2.out.trans hbst); clear hst hbst b2
      obtain ⟨z0, z1, z2, z3, z4, z5, z6, z7⟩ := hz
      generalize slOf (fillL t k) k = z at z0 z1 z2 z3 z4 z5 z6 z7
      go_wp2_with fail
      clear z0 z1 z2 z3 z4 z5 z6 z7 fz
      go_roundw
      case rel => exact ⟨k + 1, by omega, by go_num, HST.out, HBST.out⟩
      case measure => simp [intOf]; omega
    · have hkn : k = n := by omega
      subst hkn
      have HO := Lib.hid hown; clear hown
      go_wp2_with fail
      go_ret
      refine ⟨_, rfl, ?_, hb⟩
      have h := HO.out
      rw [← HL.out, fillL_all] at h
      have hl := HL.out
      subst hl
      exact h
/-! ### measured -/
def szL (t : List Sl) (m : Int) : Int := if m < t.length then -1 else m - t.length
theorem szL_ok {t : List Sl} (h : 0 ≤ szL t 1048576) : t.length ≤ 1048576 := by
  unfold szL at h
  split at h
  · omega
  · omega
theorem szSlots_any (ao : Option Addr) (n cap : Nat) (t : List Sl) (w : World) (hl : t.length = n) (hn : n ≤ 9223372036854775807) :
    Calls Try.prog 40 #[.slice ao n cap, .int .i64 1048576] w fun e w' => e = .returned (.int .i64 (szL t 1048576)) ∧ w = w' := by
  have HL := Lib.hid hl
  clear hl
  have hw : IntKind.i64.wrap ((1048576 : Int) - n) = 1048576 - n := by rw [IntKind.wrap_i64]; omega
  by_cases hbig : (1048576 : Int) < n
  · have HF := Lib.hid (show szL t 1048576 = -1 from by unfold szL; rw [if_pos (by rw [HL.out]; exact hbig)])
    have hq : (1048576 : Int) - n < 0 := by omega
    go_enter Try.func40, Try.ntmps40
    go_wp2_with fail
    go_ret
    rw [HF.out]
    exact ⟨rfl, rfl⟩
  have hq : ¬ (1048576 : Int) - n < 0 := by omega
  have HF := Lib.hid (show szL t 1048576 = 1048576 - n from by unfold szL; rw [if_neg (by rw [HL.out]; exact hbig), HL.out])
  go_enter Try.func40, Try.ntmps40
  go_wp2_with fail
  go_ret
  rw [HF.out]
  exact ⟨rfl, rfl⟩
/-! ### compared -/
set_option maxHeartbeats 1000000 in
set_option maxRecDepth 100000 in
theorem eqSlot_any (x : Sl) (w : World) : Calls Try.prog 97 #[slVal x, slVal x] w fun e w' => e = .returned (.bool true) ∧ Below w.heap.size w w' := by
  have HT := Lib.hid (two_sl w x x)
  have HB := Lib.hid (show Below w.heap.size w ((w.alloc (.cells #[.int .i64 x.mode, .int .i64 x.round, .int .i64 x.slot, .int .i64 x.desc.node, .int .i64 x.desc.kind, .int .i64 x.desc.size, .int .i64 x.desc.dur, .bool x.desc.chg] 38)).alloc (.cells #[.int .i64 x.mode, .int .i64 x.round, .int .i64 x.slot, .int .i64 x.desc.node, .int .i64 x.desc.kind, .int .i64 x.desc.size, .int .i64 x.desc.dur, .bool x.desc.chg] 38)) from below_two ((Below.refl _ _).alloc (Nat.le_refl _) _) ((Below.refl _ _).alloc (Nat.le_refl _) _))
  have HC := Lib.hid (fun W => eqDescriptor_any x.desc.node x.desc.kind x.desc.size x.desc.dur x.desc.chg W)
  unfold slVal
  go_enter Try.func97, Try.ntmps97
  go_upto_region 1 with fail
  generalize (w.alloc (.cells #[.int .i64 x.mode, .int .i64 x.round, .int .i64 x.slot, .int .i64 x.desc.node, .int .i64 x.desc.kind, .int .i64 x.desc.size, .int .i64 x.desc.dur, .bool x.desc.chg] 38)).alloc (.cells #[.int .i64 x.mode, .int .i64 x.round, .int .i64 x.slot, .int .i64 x.desc.node, .int .i64 x.desc.kind, .int .i64 x.desc.size, .int .i64 x.desc.dur, .bool x.desc.chg] 38) = w1 at HT HB ⊢
  obtain ⟨q0, q1, q2, q3, q4, q5, q6, q7⟩ := HT.out.a.all8
  obtain ⟨r0, r1, r2, r3, r4, r5, r6, r7⟩ := HT.out.b.all8
  have n0 : (x.mode != x.mode) = false := by simp
  have n1 : (x.round != x.round) = false := by simp
  have n2 : (x.slot != x.slot) = false := by simp
  go_wp2_with fail
  refine (HC.out _).mono ?_
  rintro e w2 ⟨rfl, b2⟩
  have HB2 := Lib.hid (below_two HB.out b2)
  clear b2 q0 q1 q2 q3 q4 q5 q6 q7 r0 r1 r2 r3 r4 r5 r6 r7
  go_wp2_with fail
  go_ret
  exact ⟨rfl, HB2.out⟩
theorem sl_neq (x : Sl) (w : World) : (binOp .neq 38 (.agg #[.int .i64 x.mode, .int .i64 x.round, .int .i64 x.slot, .int .i64 x.desc.node, .int .i64 x.desc.kind, .int .i64 x.desc.size, .int .i64 x.desc.dur, .bool x.desc.chg]) (.agg #[.int .i64 x.mode, .int .i64 x.round, .int .i64 x.slot, .int .i64 x.desc.node, .int .i64 x.desc.kind, .int .i64 x.desc.size, .int .i64 x.desc.dur, .bool x.desc.chg])).run Try.prog w = .ok (.bool false) w := by
  rw [run_neq_struct]
  have h : (Op.equalIn 10000 38 (.agg #[.int .i64 x.mode, .int .i64 x.round, .int .i64 x.slot, .int .i64 x.desc.node, .int .i64 x.desc.kind, .int .i64 x.desc.size, .int .i64 x.desc.dur, .bool x.desc.chg]) (.agg #[.int .i64 x.mode, .int .i64 x.round, .int .i64 x.slot, .int .i64 x.desc.node, .int .i64 x.desc.kind, .int .i64 x.desc.size, .int .i64 x.desc.dur, .bool x.desc.chg])).run Try.prog w = .ok true w := by
    rw [run_equalIn_agg w 9999 _ _ _ (by kernel_rfl) (by kernel_rfl)]
    simp only [Program.fieldsOf, Try.underlying38, Op.eqFields]
    simp [go_sem]
  rw [h]; rfl
set_option maxHeartbeats 1000000 in
set_option maxRecDepth 100000 in
set_option linter.unusedSimpArgs false in
/-- laws.eqSlotInfoS of one list read twice. -/
theorem eqSlots_yes (ao bo : Option Addr) (n c d : Nat) (t : List Sl) (w : World) (hx : RdE w ao n t) (hy : RdE w bo n t) (hn : n ≤ 9223372036854775807) (hc : n ≤ c) (hd : n ≤ d) :
    Calls Try.prog 42 #[.slice ao n c, .slice bo n d] w fun e w' => e = .returned (.bool true) ∧ Below w.heap.size w w' := by
  have HX := Lib.hid hx; have HY := Lib.hid hy; clear hx hy
  have hne : ((n : Int) != (n : Int)) = false := by simp
  go_enter Try.func42, Try.ntmps42
  go_wp2_with fail
  clear hne
  go_loopw [5] (fun i wr => ∃ k : Nat, k ≤ n ∧ i = .int .i64 k ∧ Below w.heap.size w wr) (fun i _ => n - (intOf i).toNat)
  case atStart => exact ⟨0, Nat.zero_le _, rfl, Below.refl _ _⟩
  case round =>
    obtain ⟨k, hk, rfl, hb⟩ := hrel
    by_cases hlt : k < n
    · obtain ⟨g, off, rfl, hg, hx⟩ := HX.out.at hlt
      obtain ⟨g', off', rfl, hg', hy⟩ := HY.out.at hlt
      replace hx := hx.below hb hg
      replace hy := hy.below hb hg'
      have HB := Lib.hid hb; clear hb
      obtain ⟨x, hxe⟩ : ∃ x, x = slOf t k := ⟨_, rfl⟩
      rw [← hxe] at hx hy
      clear hxe
      have HXW := Lib.hid (fun W (hW : Below wr.heap.size wr W) => (hx.below hW hx.lt).all8)
      have HYW := Lib.hid (fun W (hW : Below wr.heap.size wr W) => (hy.below hW hy.lt).all8)
      have HD := Lib.hid (show Below wr.heap.size wr wr.drew from Below.drew (Below.refl _ _))
      clear hx hy hg hg'
      have HCALL := Lib.hid (fun W => eqSlot_any x W)
      unfold slVal at HCALL
      go_upto_region 6 with fail
      refine wp_region_held_drew (S := fun w' => (w'.cell? ⟨g, off + k * 8, none⟩ = some (Value.int .i64 x.mode) ∧ w'.cell? ⟨g, off + k * 8 + 1, none⟩ = some (Value.int .i64 x.round) ∧ w'.cell? ⟨g, off + k * 8 + 2, none⟩ = some (Value.int .i64 x.slot) ∧ w'.cell? ⟨g, off + k * 8 + 3, none⟩ = some (Value.int .i64 x.desc.node) ∧ w'.cell? ⟨g, off + k * 8 + 4, none⟩ = some (Value.int .i64 x.desc.kind) ∧ w'.cell? ⟨g, off + k * 8 + 5, none⟩ = some (Value.int .i64 x.desc.size) ∧ w'.cell? ⟨g, off + k * 8 + 6, none⟩ = some (Value.int .i64 x.desc.dur) ∧ w'.cell? ⟨g, off + k * 8 + 7, none⟩ = some (Value.bool x.desc.chg)) ∧ (w'.cell? ⟨g', off' + k * 8, none⟩ = some (Value.int .i64 x.mode) ∧ w'.cell? ⟨g', off' + k * 8 + 1, none⟩ = some (Value.int .i64 x.round) ∧ w'.cell? ⟨g', off' + k * 8 + 2, none⟩ = some (Value.int .i64 x.slot) ∧ w'.cell? ⟨g', off' + k * 8 + 3, none⟩ = some (Value.int .i64 x.desc.node) ∧ w'.cell? ⟨g', off' + k * 8 + 4, none⟩ = some (Value.int .i64 x.desc.kind) ∧ w'.cell? ⟨g', off' + k * 8 + 5, none⟩ = some (Value.int .i64 x.desc.size) ∧ w'.cell? ⟨g', off' + k * 8 + 6, none⟩ = some (Value.int .i64 x.desc.dur) ∧ w'.cell? ⟨g', off' + k * 8 + 7, none⟩ = some (Value.bool x.desc.chg))) (by kernel_rfl) (⟨HXW.out _ HD.out, HYW.out _ HD.out⟩) (fun hHeld => ?_)
      generalize wr.drew = w1 at HD hHeld ⊢
      refine wpAnyH_take (i := 0) (v := ?_) rfl (by kernel_rfl) (by kernel_rfl) (by kernel_rfl) (fun _ _ _ h => h) (Or.inl ⟨by rfl, ?_⟩) (by assumption) ?_
      rotate_left
      · (intro w hSw; (try dsimp only at hSw); go_simp; (try with_reducible rfl))
      try simp only [List.getElem_toArray, List.getElem_cons_succ, List.getElem_cons_zero, Act.put, List.setIfInBounds_toArray, List.set_cons_zero, List.set_cons_succ]
      refine wpAnyH_take (i := 1) (v := ?_) rfl (by kernel_rfl) (by kernel_rfl) (by kernel_rfl) (fun _ _ _ h => h) (Or.inl ⟨by rfl, ?_⟩) (by assumption) ?_
      rotate_left
      · (intro w hSw; (try dsimp only at hSw); go_simp; (try with_reducible rfl))
      try simp only [List.getElem_toArray, List.getElem_cons_succ, List.getElem_cons_zero, Act.put, List.setIfInBounds_toArray, List.set_cons_zero, List.set_cons_succ]
      refine wpAnyH_take (i := 2) (v := ?_) rfl (by kernel_rfl) (by kernel_rfl) (by kernel_rfl) (fun _ _ _ h => h) (Or.inl ⟨by rfl, ?_⟩) (by assumption) ?_
      rotate_left
      · (intro w hSw; (try dsimp only at hSw); go_simp; (try with_reducible rfl))
      try simp only [List.getElem_toArray, List.getElem_cons_succ, List.getElem_cons_zero, Act.put, List.setIfInBounds_toArray, List.set_cons_zero, List.set_cons_succ]
      refine wpAnyH_take (i := 3) (v := ?_) rfl (by kernel_rfl) (by kernel_rfl) (by kernel_rfl) (fun _ _ _ h => h) (Or.inl ⟨by rfl, ?_⟩) (by assumption) ?_
      rotate_left
      · (intro w hSw; (try dsimp only at hSw); go_simp; (try with_reducible rfl))
      try simp only [List.getElem_toArray, List.getElem_cons_succ, List.getElem_cons_zero, Act.put, List.setIfInBounds_toArray, List.set_cons_zero, List.set_cons_succ]
      refine wpAnyH_take (i := 4) (v := ?_) rfl (by kernel_rfl) (by kernel_rfl) (by kernel_rfl) (fun _ _ _ h => h) (Or.inl ⟨by rfl, ?_⟩) (by assumption) ?_
      rotate_left
      · (intro w hSw; (try dsimp only at hSw); go_simp; (try with_reducible rfl))
      try simp only [List.getElem_toArray, List.getElem_cons_succ, List.getElem_cons_zero, Act.put, List.setIfInBounds_toArray, List.set_cons_zero, List.set_cons_succ]
      refine wpAnyH_take (i := 5) (v := ?_) rfl (by kernel_rfl) (by kernel_rfl) (by kernel_rfl) (fun _ _ _ h => h) (Or.inl ⟨by rfl, ?_⟩) (by assumption) ?_
      rotate_left
      · (intro w hSw; (try dsimp only at hSw); go_simp; (try with_reducible rfl))
      try simp only [List.getElem_toArray, List.getElem_cons_succ, List.getElem_cons_zero, Act.put, List.setIfInBounds_toArray, List.set_cons_zero, List.set_cons_succ]
      refine wpAnyH_take (i := 6) (v := ?_) rfl (by kernel_rfl) (by kernel_rfl) (by kernel_rfl) (fun _ _ _ h => h) (Or.inl ⟨by rfl, ?_⟩) (by assumption) ?_
      rotate_left
      · (intro w hSw; (try dsimp only at hSw); go_simp; (try with_reducible rfl))
      try simp only [List.getElem_toArray, List.getElem_cons_succ, List.getElem_cons_zero, Act.put, List.setIfInBounds_toArray, List.set_cons_zero, List.set_cons_succ]
      refine wpAnyH_take (i := 7) (v := ?_) rfl (by kernel_rfl) (by kernel_rfl) (by kernel_rfl) (fun _ _ _ h => h) (Or.inl ⟨by rfl, ?_⟩) (by assumption) ?_
      rotate_left
      · (intro w hSw; (try dsimp only at hSw); go_simp; (try with_reducible rfl))
      try simp only [List.getElem_toArray, List.getElem_cons_succ, List.getElem_cons_zero, Act.put, List.setIfInBounds_toArray, List.set_cons_zero, List.set_cons_succ]
      refine wpAnyH_ready (rs := [8]) (by kernel_rfl) (by simp) (AllReadyH.cons rfl (fun K hK => ?_) AllReadyH.nil)
      go_simp
      refine (HCALL.out _).mono ?_
      rintro e w2 ⟨rfl, b2⟩
      have HD2 := Lib.hid (below_two HD.out b2); clear b2
      go_wp2_with fail
      refine hK.out _ _ ?_ (fun hHeld => ?_)
      · exact ⟨HXW.out _ HD2.out, HYW.out _ HD2.out⟩
      clear hK K
      try simp only [List.getElem_toArray, List.getElem_cons_succ, List.getElem_cons_zero, Act.put, List.setIfInBounds_toArray, List.set_cons_zero, List.set_cons_succ]
      refine wpAnyH_take (i := 9) (v := ?_) rfl (by kernel_rfl) (by kernel_rfl) (by kernel_rfl) (fun _ _ _ h => h) (Or.inl ⟨by rfl, ?_⟩) (by assumption) ?_
      rotate_left
      · (intro w hSw; (try dsimp only at hSw); go_simp; (try with_reducible rfl))
      try simp only [List.getElem_toArray, List.getElem_cons_succ, List.getElem_cons_zero, Act.put, List.setIfInBounds_toArray, List.set_cons_zero, List.set_cons_succ]
      refine wpAnyH_done (by kernel_rfl) ?_ _
      have HBE := Lib.hid (below_two HB.out HD2.out)
      go_wp2_with fail
      go_roundw
      case rel => exact ⟨k + 1, by omega, by go_num, HBE.out⟩
      case measure => simp [intOf]; omega
    · have hkn : k = n := by omega
      subst hkn
      have HB := Lib.hid hb; clear hb
      go_wp2_with fail
      go_ret
      exact ⟨rfl, HB.out⟩
set_option maxHeartbeats 1000000 in
set_option maxRecDepth 100000 in
set_option linter.unusedSimpArgs false in
/-- laws.likeSlots of one list read twice. -/
theorem likeSlots_yes (ao bo : Option Addr) (n c d : Nat) (t : List Sl) (w : World) (hx : RdE w ao n t) (hy : RdE w bo n t) (hn : n ≤ 9223372036854775807) (hc : n ≤ c) (hd : n ≤ d) :
    Calls Try.prog 25 #[.slice ao n c, .slice bo n d] w fun e w' => e = .returned (.bool true) ∧ Below w.heap.size w w' := by
  have HX := Lib.hid hx; have HY := Lib.hid hy; clear hx hy
  have hne : ((n : Int) != (n : Int)) = false := by simp
  go_enter Try.func25, Try.ntmps25
  go_wp2_with fail
  clear hne
  go_loopw [5] (fun i wr => ∃ k : Nat, k ≤ n ∧ i = .int .i64 k ∧ Below w.heap.size w wr) (fun i _ => n - (intOf i).toNat)
  case atStart => exact ⟨0, Nat.zero_le _, rfl, Below.refl _ _⟩
  case round =>
    obtain ⟨k, hk, rfl, hb⟩ := hrel
    by_cases hlt : k < n
    · obtain ⟨g, off, rfl, hg, hx⟩ := HX.out.at hlt
      obtain ⟨g', off', rfl, hg', hy⟩ := HY.out.at hlt
      replace hx := hx.below hb hg
      replace hy := hy.below hb hg'
      have HB := Lib.hid hb; clear hb
      obtain ⟨x, hxe⟩ : ∃ x, x = slOf t k := ⟨_, rfl⟩
      rw [← hxe] at hx hy
      clear hxe
      have HXW := Lib.hid (fun W (hW : Below wr.heap.size wr W) => (hx.below hW hx.lt).all8)
      have HYW := Lib.hid (fun W (hW : Below wr.heap.size wr W) => (hy.below hW hy.lt).all8)
      have HD := Lib.hid (show Below wr.heap.size wr wr.drew from Below.drew (Below.refl _ _))
      clear hx hy hg hg'
      have hneq : ∀ W, (binOp .neq 38 (.agg #[.int .i64 x.mode, .int .i64 x.round, .int .i64 x.slot, .int .i64 x.desc.node, .int .i64 x.desc.kind, .int .i64 x.desc.size, .int .i64 x.desc.dur, .bool x.desc.chg]) (.agg #[.int .i64 x.mode, .int .i64 x.round, .int .i64 x.slot, .int .i64 x.desc.node, .int .i64 x.desc.kind, .int .i64 x.desc.size, .int .i64 x.desc.dur, .bool x.desc.chg])).run Try.prog W = .ok (.bool false) W := fun W => sl_neq x W
      go_upto_region 6 with fail
      refine wp_region_held_drew (S := fun w' => (w'.cell? ⟨g, off + k * 8, none⟩ = some (Value.int .i64 x.mode) ∧ w'.cell? ⟨g, off + k * 8 + 1, none⟩ = some (Value.int .i64 x.round) ∧ w'.cell? ⟨g, off + k * 8 + 2, none⟩ = some (Value.int .i64 x.slot) ∧ w'.cell? ⟨g, off + k * 8 + 3, none⟩ = some (Value.int .i64 x.desc.node) ∧ w'.cell? ⟨g, off + k * 8 + 4, none⟩ = some (Value.int .i64 x.desc.kind) ∧ w'.cell? ⟨g, off + k * 8 + 5, none⟩ = some (Value.int .i64 x.desc.size) ∧ w'.cell? ⟨g, off + k * 8 + 6, none⟩ = some (Value.int .i64 x.desc.dur) ∧ w'.cell? ⟨g, off + k * 8 + 7, none⟩ = some (Value.bool x.desc.chg)) ∧ (w'.cell? ⟨g', off' + k * 8, none⟩ = some (Value.int .i64 x.mode) ∧ w'.cell? ⟨g', off' + k * 8 + 1, none⟩ = some (Value.int .i64 x.round) ∧ w'.cell? ⟨g', off' + k * 8 + 2, none⟩ = some (Value.int .i64 x.slot) ∧ w'.cell? ⟨g', off' + k * 8 + 3, none⟩ = some (Value.int .i64 x.desc.node) ∧ w'.cell? ⟨g', off' + k * 8 + 4, none⟩ = some (Value.int .i64 x.desc.kind) ∧ w'.cell? ⟨g', off' + k * 8 + 5, none⟩ = some (Value.int .i64 x.desc.size) ∧ w'.cell? ⟨g', off' + k * 8 + 6, none⟩ = some (Value.int .i64 x.desc.dur) ∧ w'.cell? ⟨g', off' + k * 8 + 7, none⟩ = some (Value.bool x.desc.chg))) (by kernel_rfl) (⟨HXW.out _ HD.out, HYW.out _ HD.out⟩) (fun hHeld => ?_)
      generalize wr.drew = w1 at HD hHeld ⊢
      refine wpAnyH_take (i := 0) (v := ?_) rfl (by kernel_rfl) (by kernel_rfl) (by kernel_rfl) (fun _ _ _ h => h) (Or.inl ⟨by rfl, ?_⟩) (by assumption) ?_
      rotate_left
      · (intro w hSw; (try dsimp only at hSw); go_simp; (try with_reducible rfl))
      try simp only [List.getElem_toArray, List.getElem_cons_succ, List.getElem_cons_zero, Act.put, List.setIfInBounds_toArray, List.set_cons_zero, List.set_cons_succ]
      refine wpAnyH_take (i := 1) (v := ?_) rfl (by kernel_rfl) (by kernel_rfl) (by kernel_rfl) (fun _ _ _ h => h) (Or.inl ⟨by rfl, ?_⟩) (by assumption) ?_
      rotate_left
      · (intro w hSw; (try dsimp only at hSw); go_simp; (try with_reducible rfl))
      try simp only [List.getElem_toArray, List.getElem_cons_succ, List.getElem_cons_zero, Act.put, List.setIfInBounds_toArray, List.set_cons_zero, List.set_cons_succ]
      refine wpAnyH_take (i := 2) (v := ?_) rfl (by kernel_rfl) (by kernel_rfl) (by kernel_rfl) (fun _ _ _ h => h) (Or.inl ⟨by rfl, ?_⟩) (by assumption) ?_
      rotate_left
      · (intro w hSw; (try dsimp only at hSw); go_simp; (try with_reducible rfl))
      try simp only [List.getElem_toArray, List.getElem_cons_succ, List.getElem_cons_zero, Act.put, List.setIfInBounds_toArray, List.set_cons_zero, List.set_cons_succ]
      refine wpAnyH_take (i := 3) (v := ?_) rfl (by kernel_rfl) (by kernel_rfl) (by kernel_rfl) (fun _ _ _ h => h) (Or.inl ⟨by rfl, ?_⟩) (by assumption) ?_
      rotate_left
      · (intro w hSw; (try dsimp only at hSw); go_simp; (try with_reducible rfl))
      try simp only [List.getElem_toArray, List.getElem_cons_succ, List.getElem_cons_zero, Act.put, List.setIfInBounds_toArray, List.set_cons_zero, List.set_cons_succ]
      refine wpAnyH_take (i := 4) (v := ?_) rfl (by kernel_rfl) (by kernel_rfl) (by kernel_rfl) (fun _ _ _ h => h) (Or.inl ⟨by rfl, ?_⟩) (by assumption) ?_
      rotate_left
      · (intro w hSw; (try dsimp only at hSw); go_simp; (try with_reducible rfl))
      try simp only [List.getElem_toArray, List.getElem_cons_succ, List.getElem_cons_zero, Act.put, List.setIfInBounds_toArray, List.set_cons_zero, List.set_cons_succ]
      refine wpAnyH_take (i := 5) (v := ?_) rfl (by kernel_rfl) (by kernel_rfl) (by kernel_rfl) (fun _ _ _ h => h) (Or.inl ⟨by rfl, ?_⟩) (by assumption) ?_
      rotate_left
      · (intro w hSw; (try dsimp only at hSw); go_simp; (try with_reducible rfl))
      try simp only [List.getElem_toArray, List.getElem_cons_succ, List.getElem_cons_zero, Act.put, List.setIfInBounds_toArray, List.set_cons_zero, List.set_cons_succ]
      refine wpAnyH_take (i := 6) (v := ?_) rfl (by kernel_rfl) (by kernel_rfl) (by kernel_rfl) (fun _ _ _ h => h) (Or.inl ⟨by rfl, ?_⟩) (by assumption) ?_
      rotate_left
      · (intro w hSw; (try dsimp only at hSw); go_simp; (try with_reducible rfl))
      try simp only [List.getElem_toArray, List.getElem_cons_succ, List.getElem_cons_zero, Act.put, List.setIfInBounds_toArray, List.set_cons_zero, List.set_cons_succ]
      refine wpAnyH_take (i := 7) (v := ?_) rfl (by kernel_rfl) (by kernel_rfl) (by kernel_rfl) (fun _ _ _ h => h) (Or.inl ⟨by rfl, ?_⟩) (by assumption) ?_
      rotate_left
      · (intro w hSw; (try dsimp only at hSw); go_simp; (try with_reducible rfl))
      try simp only [List.getElem_toArray, List.getElem_cons_succ, List.getElem_cons_zero, Act.put, List.setIfInBounds_toArray, List.set_cons_zero, List.set_cons_succ]
      refine wpAnyH_take (i := 8) (v := ?_) rfl (by kernel_rfl) (by kernel_rfl) (by kernel_rfl) (fun _ _ _ h => h) (Or.inl ⟨by rfl, ?_⟩) (by assumption) ?_
      rotate_left
      · (intro w hSw; (try dsimp only at hSw); go_simp; (try with_reducible rfl))
      try simp only [List.getElem_toArray, List.getElem_cons_succ, List.getElem_cons_zero, Act.put, List.setIfInBounds_toArray, List.set_cons_zero, List.set_cons_succ]
      refine wpAnyH_done (by kernel_rfl) ?_ _
      have HBE := Lib.hid (below_two HB.out HD.out)
      go_wp2_with fail
      go_roundw
      case rel => exact ⟨k + 1, by omega, by go_num, HBE.out⟩
      case measure => simp [intOf]; omega
    · have hkn : k = n := by omega
      subst hkn
      have HB := Lib.hid hb; clear hb
      go_wp2_with fail
      go_ret
      exact ⟨rfl, HB.out⟩

/-! ### marked -/
def mkS (q : Int) (k : Nat) : Sl := ⟨q + 8 * k, q + 8 * k + 1, q + 8 * k + 2, ⟨q + 8 * k + 3, q + 8 * k + 4, q + 8 * k + 5, q + 8 * k + 6, (q + 8 * k + 7) % 3 == 0⟩⟩
def marksS (q : Int) (n : Nat) : List Sl := (List.range n).map (mkS q)
theorem marksS_len (q : Int) (n : Nat) : (marksS q n).length = n := by simp [marksS]
theorem marksS_at {q : Int} {n k : Nat} (h : k < n) : slOf (marksS q n) k = mkS q k := by
  rw [slOf_get (by rw [marksS_len]; exact h)]
  simp [marksS]
def markToS (q : Int) (t : List Sl) (k : Nat) : List Sl := marksS q k ++ t.drop k
theorem markToS_zero (q : Int) (t : List Sl) : markToS q t 0 = t := by simp [markToS, marksS]
theorem markToS_all (q : Int) (t : List Sl) : markToS q t t.length = marksS q t.length := by simp [markToS]
theorem markToS_len (q : Int) (t : List Sl) (k : Nat) (h : k ≤ t.length) : (markToS q t k).length = t.length := by
  unfold markToS; rw [List.length_append, marksS_len, List.length_drop]; omega
theorem markToS_succ (q : Int) (t : List Sl) (k : Nat) (h : k < t.length) : (markToS q t k).set k (mkS q k) = markToS q t (k + 1) := by
  unfold markToS
  rw [List.set_append_right _ _ (by rw [marksS_len]; exact Nat.le_refl _), marksS_len, Nat.sub_self, List.drop_eq_getElem_cons h, List.set_cons_zero]
  rw [show marksS q (k + 1) = marksS q k ++ [mkS q k] from by simp [marksS, List.range_succ]]
  simp
theorem mkS_eq {q : Int} {k K : Nat} (h : q + 8 * (k : Int) = (K : Int)) : mkS q k = ⟨(K : Int), (K : Int) + 1, (K : Int) + 1 + 1, ⟨(K : Int) + 1 + 1 + 1, (K : Int) + 1 + 1 + 1 + 1, (K : Int) + 1 + 1 + 1 + 1 + 1, (K : Int) + 1 + 1 + 1 + 1 + 1 + 1, ((K : Int) + 1 + 1 + 1 + 1 + 1 + 1 + 1) % 3 == 0⟩⟩ := by
  unfold mkS
  rw [h, show (K : Int) + 2 = (K : Int) + 1 + 1 from by omega, show (K : Int) + 3 = (K : Int) + 1 + 1 + 1 from by omega, show (K : Int) + 4 = (K : Int) + 1 + 1 + 1 + 1 from by omega, show (K : Int) + 5 = (K : Int) + 1 + 1 + 1 + 1 + 1 from by omega, show (K : Int) + 6 = (K : Int) + 1 + 1 + 1 + 1 + 1 + 1 from by omega, show (K : Int) + 7 = (K : Int) + 1 + 1 + 1 + 1 + 1 + 1 + 1 from by omega]
theorem grown_setSl (w : World) (g off : Nat) (x : Sl) : w.grownBy (setSl w g off x) (some g) := by
  unfold setSl
  exact grown_trans (grown_trans (grown_trans (grown_trans (grown_trans (grown_trans (grown_trans (grown_set w g off _) (grown_set _ g _ _)) (grown_set _ g _ _)) (grown_set _ g _ _)) (grown_set _ g _ _)) (grown_set _ g _ _)) (grown_set _ g _ _)) (grown_set _ g _ _)
set_option maxHeartbeats 4000000 in
set_option maxRecDepth 100000 in
theorem markSlots_row (g n cap base : Nat) (t : List Sl) (q : Int) (w : World) (hl : t.length = n) (ho : OwnE 38 w base (.slice (some ⟨g, 0, none⟩) n cap) t) (hn : n ≤ 4194304) (hq0 : 1 ≤ q) (hq1 : q ≤ 16777216) :
    Calls Try.prog 44 #[.slice (some ⟨g, 0, none⟩) n cap, .int .i64 q] w fun e w' => e = .returned (.int .i64 (q + 8 * n)) ∧ OwnE 38 w' base (.slice (some ⟨g, 0, none⟩) n cap) (marksS q n) ∧ w.grownBy w' (some g) := by
  have HL := Lib.hid hl
  have ho' : OwnE 38 w base (.slice (some ⟨g, 0, none⟩) n cap) (markToS q t 0) := by rw [markToS_zero]; exact ho
  have HO := Lib.hid ho'; clear ho ho'
  go_enter Try.func44, Try.ntmps44
  go_wp2_with fail
  go_loopw [1, 5] (fun v i wr => ∃ k : Nat, k ≤ n ∧ i = .int .i64 k ∧ v = .int .i64 (q + 8 * k) ∧ Hid (OwnE 38 wr base (.slice (some ⟨g, 0, none⟩) n cap) (markToS q t k)) ∧ Hid (w.grownBy wr (some g))) (fun _ i _ => n - (intOf i).toNat)
  case atStart => exact ⟨0, Nat.zero_le _, rfl, by simp, HO.out, World.grownBy.refl _ _⟩
  case round =>
    clear HO
    obtain ⟨k, hk, rfl, rfl, ho, HG⟩ := hrel
    by_cases hlt : k < n
    · have hkt : k < t.length := by rw [HL.out]; exact hlt
      obtain ⟨K, hK⟩ : ∃ K : Nat, K = (q + 8 * k).toNat := ⟨_, rfl⟩
      have hKi : q + 8 * (k : Int) = (K : Int) := by omega
      have hK0 : 0 < K := by omega
      have hK1 : K ≤ 67108864 := by omega
      have HNEXT := Lib.hid (show q + 8 * ((k + 1 : Nat) : Int) = (K : Int) + 1 + 1 + 1 + 1 + 1 + 1 + 1 + 1 from by omega)
      obtain ⟨hin, hfz, hst, -⟩ := ho.out.store ((markToS_len q t k (by omega)).trans HL.out) hlt (mkS q k)
      rw [markToS_succ q t k hkt, mkS_eq hKi] at hst
      have HST := Lib.hid hst
      have HG2 := Lib.hid (grown_trans HG.out (grown_setSl wr g (k * 8) ⟨(K : Int), (K : Int) + 1, (K : Int) + 1 + 1, ⟨(K : Int) + 1 + 1 + 1, (K : Int) + 1 + 1 + 1 + 1, (K : Int) + 1 + 1 + 1 + 1 + 1, (K : Int) + 1 + 1 + 1 + 1 + 1 + 1, ((K : Int) + 1 + 1 + 1 + 1 + 1 + 1 + 1) % 3 == 0⟩⟩))
      rw [hKi]
      generalize slOf (markToS q t k) k = z at hin
      obtain ⟨z0, z1, z2, z3, z4, z5, z6, z7⟩ := hin
      clear hst hK hKi hkt ho HG
      go_wp2_with fail
      clear z0 z1 z2 z3 z4 z5 z6 z7 hfz
      go_roundw
      case rel => exact ⟨k + 1, by omega, by go_num, by rw [HNEXT.out], HST, HG2⟩
      case measure => simp [intOf]; omega
    · have hkn : k = n := by omega
      subst hkn
      go_wp2_with fail
      go_ret
      exact ⟨rfl, by have h := ho.out; rw [← HL.out, markToS_all] at h; rw [HL.out] at h; exact h, HG.out⟩
/-- laws.markSlotInfoS of a slice of the call's own, a nil one too. -/
theorem markSlots_any (ao : Option Addr) (n cap base : Nat) (t : List Sl) (q : Int) (w : World) (hl : t.length = n) (ho : OwnE 38 w base (.slice ao n cap) t) (hn : n ≤ 4194304) (hq0 : 1 ≤ q) (hq1 : q ≤ 16777216) :
    Calls Try.prog 44 #[.slice ao n cap, .int .i64 q] w fun e w' => e = .returned (.int .i64 (q + 8 * n)) ∧ OwnE 38 w' base (.slice ao n cap) (marksS q n) ∧ w.grownBy w' (Value.ownBlock (.slice ao n cap)) := by
  obtain ⟨ao', cap', e, -, -, -, hcase⟩ := ho.form
  rw [hl] at e
  cases e
  rcases hcase with hnil | ⟨g, rfl, -, -⟩
  · simp only [Value.slice.injEq] at hnil
    obtain ⟨rfl, rfl, rfl⟩ := hnil
    clear ho
    go_enter Try.func44, Try.ntmps44
    go_wp2
    refine wp_loop_rounds 1 ?_
    rw [rounds_succ]
    go_wp2
    go_ret
    exact ⟨ret_int (by simp), OwnE.nil_, World.grownBy.refl _ _⟩
  · exact markSlots_row g n cap base t q w hl ho hn hq0 hq1
set_option maxHeartbeats 4000000 in
set_option maxRecDepth 100000 in
/-- laws.heldSlotInfoS of marks. -/
theorem heldSlots_yes (ao : Option Addr) (n cap : Nat) (q : Int) (w : World) (hr : RdE w ao n (marksS q n)) (hn : n ≤ 4194304) (hq0 : 1 ≤ q) (hq1 : q ≤ 16777216) :
    Calls Try.prog 48 #[.slice ao n cap, .int .i64 q] w fun e w' => e = .returned (.int .i64 (q + 8 * n)) ∧ Below w.heap.size w w' := by
  have HR := Lib.hid hr; clear hr
  go_enter Try.func48, Try.ntmps48
  go_wp2_with fail
  go_loopw [1, 5] (fun v i wr => ∃ k : Nat, k ≤ n ∧ i = .int .i64 k ∧ v = .int .i64 (q + 8 * k) ∧ Hid (Below w.heap.size w wr)) (fun _ i _ => n - (intOf i).toNat)
  case atStart => exact ⟨0, Nat.zero_le _, rfl, by simp, Below.refl _ _⟩
  case round =>
    obtain ⟨k, hk, rfl, rfl, HB⟩ := hrel
    by_cases hlt : k < n
    · obtain ⟨g, off, rfl, hg, hx⟩ := HR.out.at hlt
      rw [marksS_at hlt] at hx
      replace hx := hx.below HB.out hg
      obtain ⟨K, hK⟩ : ∃ K : Nat, K = (q + 8 * k).toNat := ⟨_, rfl⟩
      have hKi : q + 8 * (k : Int) = (K : Int) := by omega
      have hK0 : 0 < K := by omega
      have hK1 : K ≤ 67108864 := by omega
      have HNEXT := Lib.hid (show q + 8 * ((k + 1 : Nat) : Int) = (K : Int) + 1 + 1 + 1 + 1 + 1 + 1 + 1 + 1 from by omega)
      rw [mkS_eq hKi] at hx
      rw [hKi]
      obtain ⟨h0, h1, h2, h3, h4, h5, h6, h7⟩ := hx
      clear hK hKi hg
      have n0 : ((K : Int) != (K : Int)) = false := by simp
      go_wp2_with fail
      clear h0 h1 h2 h3 h4 h5 h6 h7 n0
      go_roundw
      case rel => exact ⟨k + 1, by omega, by go_num, by rw [HNEXT.out], HB⟩
      case measure => simp [intOf]; omega
    · have hkn : k = n := by omega
      subst hkn
      go_wp2_with fail
      go_ret
      exact ⟨rfl, HB.out⟩
end

section
open Go
theorem isSls_le {t : List Sl} (h : isSls t = true) : t.length ≤ 120 := (isSls_iff.1 h).1
theorem slotTableBytes_small (t : List Sl) : (slotTableBytes t).1.length ≤ 1048576 := by
  unfold slotTableBytes
  split
  · rename_i h; have := isSls_le h; rw [slotBytes_len]; omega
  · simp
theorem slotsOfNode_small (t : List Sl) (n : Int) : (slotsOfNode t n).1.length ≤ 1048576 := by
  unfold slotsOfNode
  cases h : isSls t
  · simp
  · have := isSls_le h
    simp only [Bool.true_eq_false, if_false]
    rw [nodeTo_len]
    exact Nat.le_trans (List.length_filter_le _ _) (by omega)
theorem insertSlot_small (t : List Sl) (x : Sl) : (insertSlot t x).1.length ≤ 1048576 := by
  unfold insertSlot
  cases h : isSls t
  · simp
  · have h1 := isSls_le h
    simp only [Bool.true_eq_false, if_false]
    repeat' split
    all_goals first | simp | skip
    have a := List.length_filter_le (fun y => decide (cmpSl y x < 0)) t
    have b := List.length_filter_le (fun y => decide (0 < cmpSl y x)) t
    unfold before behind
    omega
theorem readSlots_small {xs : List Int} {p : List Sl × Nat} (h : readSlots xs = some p) : p.1.length ≤ 1048576 := by
  unfold readSlots at h
  split at h
  · cases h
  · obtain ⟨t, h1, h2⟩ := Option.bind_eq_some_iff.1 h
    split at h2
    · rename_i hc
      cases h2
      have := isSls_le hc
      simp only
      omega
    · cases h2
theorem readSlotTable_small (xs : List Int) : (readSlotTable xs).1.length ≤ 1048576 := by
  unfold readSlotTable
  split
  · simp
  · split
    · simp
    · rename_i p hp
      exact readSlots_small hp
end

section
open Go.RowKit
/-- Two boxes read in a later world. -/
theorem two16 {T b1 b2 : Nat} {w W : World} {x y : Sl} (hW : Below w.heap.size w W) (h1 : SlBk T w b1 x) (h2 : SlBk T w b2 y) :
    W.cell? ⟨b1, 0, none⟩ = some (Value.int .i64 x.mode) ∧ W.cell? ⟨b1, 1, none⟩ = some (Value.int .i64 x.round) ∧ W.cell? ⟨b1, 2, none⟩ = some (Value.int .i64 x.slot) ∧ W.cell? ⟨b1, 3, none⟩ = some (Value.int .i64 x.desc.node) ∧ W.cell? ⟨b1, 4, none⟩ = some (Value.int .i64 x.desc.kind) ∧ W.cell? ⟨b1, 5, none⟩ = some (Value.int .i64 x.desc.size) ∧ W.cell? ⟨b1, 6, none⟩ = some (Value.int .i64 x.desc.dur) ∧ W.cell? ⟨b1, 7, none⟩ = some (Value.bool x.desc.chg) ∧ W.cell? ⟨b2, 0, none⟩ = some (Value.int .i64 y.mode) ∧ W.cell? ⟨b2, 1, none⟩ = some (Value.int .i64 y.round) ∧ W.cell? ⟨b2, 2, none⟩ = some (Value.int .i64 y.slot) ∧ W.cell? ⟨b2, 3, none⟩ = some (Value.int .i64 y.desc.node) ∧ W.cell? ⟨b2, 4, none⟩ = some (Value.int .i64 y.desc.kind) ∧ W.cell? ⟨b2, 5, none⟩ = some (Value.int .i64 y.desc.size) ∧ W.cell? ⟨b2, 6, none⟩ = some (Value.int .i64 y.desc.dur) ∧ W.cell? ⟨b2, 7, none⟩ = some (Value.bool y.desc.chg) := by
  obtain ⟨a0, a1, a2, a3, a4, a5, a6, a7⟩ := (h1.below hW h1.lt).all8
  obtain ⟨c0, c1, c2, c3, c4, c5, c6, c7⟩ := (h2.below hW h2.lt).all8
  exact ⟨a0, a1, a2, a3, a4, a5, a6, a7, c0, c1, c2, c3, c4, c5, c6, c7⟩
end
end Go.Proofs.Ytggnoeeaoligdaa
