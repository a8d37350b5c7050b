/-
  Chapter 12: the bytes of a slot table, of the program and of the model.
  Chapter 12: the model's reader: ReadSlotTable.
-/
import Derived.Test.YtpedlofckbplmaaSlA
import Derived.Test.YtpedlofckbplmaaEigB
import Derived.Test.YtpedlofckbplmaaHl
import Derived.Test.YtpedlofckbplmaaBase
import Derived.Test.YtpedlofckbplmaaRdT
namespace Go.Proofs.Ytpedlofckbplmaa
section
open Go.RowKit

def slTo (t : List Sl) (k : Nat) : List Int := [(t.length : Int)] ++ (t.take k).flatMap slBytes
theorem slTo_zero (t : List Sl) : slTo t 0 = [(t.length : Int)] := by simp [slTo]
theorem slTo_all (t : List Sl) : slTo t t.length = slotBytes t := by unfold slTo slotBytes; rw [List.take_length]
theorem slTo_succ {t : List Sl} {k : Nat} (h : k < t.length) : slTo t (k + 1) = slTo t k ++ slBytes (slOf t k) := by
  unfold slTo
  rw [slOf_get h, List.take_succ_eq_append_getElem h, List.flatMap_append, List.append_assoc]
  simp
theorem slTo_le {t : List Sl} {k : Nat} (h : k ≤ t.length) : (slTo t k).length ≤ 1 + 7 * k := by
  unfold slTo
  rw [List.length_append, sl_flat, List.length_take]
  simp only [List.length_singleton]
  omega
/-- An entry's numbers lie where its bytes are reckoned without a carry. -/
def slIn (x : Sl) : Prop := (0 ≤ x.mode ∧ x.mode ≤ 15) ∧ (0 ≤ x.round ∧ x.round ≤ 15) ∧ descIn x.desc
theorem slIn_of {x : Sl} (h : isSl x = true) : slIn x := by
  obtain ⟨h1, h2, -, h4⟩ := isSl_iff.1 h
  exact ⟨h1, ⟨h2.1, by omega⟩, desc_in h4⟩
theorem slIn_all {t : List Sl} (h : isSls t = true) : ∀ x ∈ t, slIn x := fun x hx => slIn_of ((isSls_iff.1 h).2.1 x hx)
theorem or_low {m r : Int} (h0 : 0 ≤ m) (h1 : m ≤ 15) (h2 : 0 ≤ r) (h3 : r ≤ 15) : bits .or .i64 (m * 16) r = m * 16 + r := by
  obtain ⟨a, rfl⟩ : ∃ a : Nat, m = a := ⟨m.toNat, by omega⟩
  obtain ⟨b, rfl⟩ : ∃ b : Nat, r = b := ⟨r.toNat, by omega⟩
  have h := or_nat (a * 16) b (by omega) (by omega)
  rw [show ((a * 16 : Nat) : Int) = (a : Int) * 16 from by omega] at h
  rw [h]
  have : a * 16 ||| b = a * 16 + b := by
    have := Nat.shiftLeft_add_eq_or_of_lt (b := b) (i := 4) (by omega) a
    rw [Nat.shiftLeft_eq] at this
    exact this.symm
  rw [this]
  omega
theorem RdE.below2 {w w' : World} {ao : Option Addr} {n B : Nat} {t : List Sl} (h : RdE w ao n t) (hb : Below B w w') (hlt : ∀ b off, ao = some ⟨b, off, none⟩ → b < B) : RdE w' ao n t :=
  ⟨h.len, fun hn => by
    obtain ⟨b, off, e, hc⟩ := h.here hn
    exact ⟨b, off, e, fun i hi => (hc i hi).below hb (hlt b off e)⟩⟩
theorem slTable_yes {t : List Sl} (h : isSls t = true) : slotTableBytes t = (slotBytes t, 0) := by unfold slotTableBytes; rw [if_pos h]
theorem slTable_no {t : List Sl} (h : isSls t = false) : slotTableBytes t = ([], 1) := by unfold slotTableBytes; rw [if_neg (by rw [h]; simp)]
theorem descBytes_yes {d : Ds} (h : isDesc d = true) : descToBytes d = (descBytes d, 0) := by unfold descToBytes; rw [if_pos h]
set_option maxRecDepth 100000 in
set_option maxHeartbeats 4000000 in
theorem slotBytesI_any (ao : Option Addr) (n cap : Nat) (t : List Sl) (w : World) (hr : RdE w ao n t) (hn : n ≤ 1048576) :
    Calls Try.prog 39 #[.slice ao n cap] w (Makes2 2 w (slotTableBytes t).1 (slotTableBytes t).2) := by
  have HIS := Lib.hid (isSlsI_any ao n cap t w hr hn)
  have HBL := Lib.hid (fun b off (e : ao = some ⟨b, off, none⟩) (h0 : 0 < n) => (by obtain ⟨b', off', e', hb, -⟩ := hr.at h0; cases e.symm.trans e'; exact hb : b < w.heap.size))
  have HL := Lib.hid hr.len
  have HR := Lib.hid hr
  clear hr
  rcases hi : isSls t with _ | _
  · rw [slTable_no hi]
    go_enter Try.func39, Try.ntmps39
    go_wp2_with fail
    refine HIS.out.mono ?_
    rintro e w1 ⟨rfl, b1⟩
    rw [hi]
    go_wp2_with fail
    go_ret2
    exact ⟨_, rfl, Own.nil_, b1⟩
  rw [slTable_yes hi]
  have HIN := Lib.hid (isSls_iff.1 hi).2.1
  have HALL := Lib.hid ((slTo_all t).symm.trans (by rw [HL.out] : slTo t t.length = slTo t n))
  have HN := Lib.hid (show n ≤ 120 from by have := (isSls_iff.1 hi).1; have := HL.out; omega)
  go_enter Try.func39, Try.ntmps39
  go_wp2_with fail
  refine HIS.out.mono ?_
  rintro e w1 ⟨rfl, b1⟩
  rw [hi]
  have o0 := Own.one (E := 2) (base := w.heap.size) (w := w1) (n : Int) b1.size
  have HR1 := Lib.hid (HR.out.below b1)
  have HB1 := Lib.hid (b1.alloc b1.size (.cells #[.int .i64 (n : Int)] 2))
  have HE := Lib.hid (slTo_zero t)
  rw [HL.out] at HE
  rw [← HE.out] at o0
  have HRB := Lib.hid (HR1.out.below ((Below.refl w1.heap.size w1).alloc (Nat.le_refl _) (.cells #[.int .i64 (n : Int)] 2)))
  clear b1 HIS HR HR1
  go_wp2_with fail
  have hg1 : ∃ v, v = Value.slice (some ⟨w1.heap.size, 0, none⟩) 1 1 := ⟨_, rfl⟩
  obtain ⟨v1, hv1⟩ := hg1
  rw [← hv1] at o0 ⊢
  generalize w1.alloc (.cells #[.int .i64 (n : Int)] 2) = w2 at o0 HB1 HRB ⊢
  clear hv1
  go_loopw [4, 17] (fun s i wr => ∃ (k : Nat) (v : Value), k ≤ n ∧ v = s ∧ i = .int .i64 k ∧ Hid (Own 2 wr w.heap.size v (slTo t k)) ∧ Hid (Below w.heap.size w wr) ∧ Hid (RdE wr ao n t)) (fun _ i _ => n - (intOf i).toNat)
  case atStart => exact ⟨0, v1, Nat.zero_le _, rfl, rfl, o0, HB1.out, HRB.out⟩
  case round =>
    clear o0 HB1 HRB
    obtain ⟨k, v, hk, rfl, rfl, HO, HB, HRK⟩ := hrel
    by_cases hlt : k < n
    · obtain ⟨b, off, e0, hg, hx⟩ := HRK.out.at hlt
      subst e0
      have hxi := HIN.out _ (slOf_mem (t := t) (i := k) (by rw [HL.out]; exact hlt))
      have HSUC := Lib.hid (slTo_succ (t := t) (k := k) (by rw [HL.out]; exact hlt))
      have HLE := Lib.hid (slTo_le (t := t) (k := k) (by rw [HL.out]; omega))
      have HN1 := Lib.hid (show k ≤ 120 from by have := HN.out; omega)
      obtain ⟨x, hxe⟩ : ∃ x, x = slOf t k := ⟨_, rfl⟩
      rw [← hxe] at hx hxi HSUC
      obtain ⟨⟨i1, i2⟩, ⟨i3, i4⟩, -⟩ := slIn_of hxi
      have hor := or_low i1 i2 i3 i4
      have hsh : IntKind.i64.wrap (x.mode * 16) = x.mode * 16 := by rw [IntKind.wrap_i64]; omega
      have HDB := Lib.hid (fun W => (by have h := descToBytes_any x.desc.node x.desc.kind x.desc.size x.desc.dur x.desc.chg W; rw [show (⟨x.desc.node, x.desc.kind, x.desc.size, x.desc.dur, x.desc.chg⟩ : Ds) = x.desc from rfl, descBytes_yes (isSl_iff.1 hxi).2.2.2] at h; exact h : Calls Try.prog 82 #[.agg #[.int .i64 x.desc.node, .int .i64 x.desc.kind, .int .i64 x.desc.size, .int .i64 x.desc.dur, .bool x.desc.chg]] W (Makes2 2 W (descBytes x.desc) 0)))
      obtain ⟨q0, q1, q2, q3, q4, q5, q6, q7⟩ := hx.all8
      clear hxe hxi i1 i2 i3 i4
      have hb1 := (Below.refl wr.heap.size wr).alloc (Nat.le_refl _) (.cells #[.int .i64 x.mode, .int .i64 x.round, .int .i64 x.slot, .int .i64 x.desc.node, .int .i64 x.desc.kind, .int .i64 x.desc.size, .int .i64 x.desc.dur, .bool x.desc.chg] 93)
      have HX := Lib.hid (SlBk.new (T := 93) (x := x) wr)
      have HO1 := Lib.hid (HO.out.below hb1)
      have HB1 := Lib.hid (below_two HB.out hb1)
      have HR1 := Lib.hid (HRK.out.below hb1)
      have HS0 := Lib.hid (show wr.heap.size + 1 = (wr.alloc (.cells #[.int .i64 x.mode, .int .i64 x.round, .int .i64 x.slot, .int .i64 x.desc.node, .int .i64 x.desc.kind, .int .i64 x.desc.size, .int .i64 x.desc.dur, .bool x.desc.chg] 93)).heap.size from by simp)
      have HLT := Lib.hid (show ∀ q, v.ownBlock = some q → q < wr.heap.size from fun q hq => (HO.out.block q hq).2)
      have HLB := Lib.hid (show ∀ q, v.ownBlock = some q → w.heap.size ≤ q from fun q hq => (HO.out.block q hq).1)
      clear hb1 HO HB HRK hx
      go_upto_region 7 with fail
      clear q0 q1 q2 q3 q4 q5 q6 q7
      generalize wr.alloc (.cells #[.int .i64 x.mode, .int .i64 x.round, .int .i64 x.slot, .int .i64 x.desc.node, .int .i64 x.desc.kind, .int .i64 x.desc.size, .int .i64 x.desc.dur, .bool x.desc.chg] 93) = w3 at HX HO1 HB1 HR1 HS0 ⊢
      obtain ⟨q0, q1, q2, q3, q4, q5, q6, q7⟩ := HX.out.all8
      go_wp2_with fail
      refine (HDB.out _).mono ?_
      rintro e w4 hm
      obtain ⟨ao4, cap4, rfl, o4, r4, b4⟩ := hm.get
      have HX4 := Lib.hid (HX.out.below b4 HX.out.lt)
      have HO4 := Lib.hid (HO1.out.below b4)
      have HB4 := Lib.hid (below_two HB1.out b4)
      have HR4 := Lib.hid (HR1.out.below b4)
      have HA4 := Lib.hid (show ∀ q, v.ownBlock = some q → ∀ b off, ao4 = some ⟨b, off, none⟩ → some q ≠ some b from fun q hq b off e h => by
        have h1 := HLT.out q hq
        have h2 := (o4.block b (by rw [e]; rfl)).1
        have h3 := HS0.out
        cases h
        omega)
      have HRD := Lib.hid r4
      clear hm o4 r4 b4 q0 q1 q2 q3 q4 q5 q6 q7 HX HO1 HB1 HR1 HDB
      obtain ⟨q0, q1, q2, q3, q4, q5, q6, q7⟩ := HX4.out.all8
      have HNE := Lib.hid (show ∀ q, v.ownBlock = some q → q < w4.heap.size from fun q hq => (HO4.out.block q hq).2)
      have HOA := Lib.hid (fun y1 y2 => HO4.out.below ((Below.refl w4.heap.size w4).alloc (Nat.le_refl _) (.cells #[.int .i64 y1, .int .i64 y2] 2)))
      have HBA := Lib.hid (fun y1 y2 => below_two HB4.out ((Below.refl w4.heap.size w4).alloc (Nat.le_refl _) (.cells #[.int .i64 y1, .int .i64 y2] 2)))
      have HRA := Lib.hid (fun y1 y2 => HR4.out.below ((Below.refl w4.heap.size w4).alloc (Nat.le_refl _) (.cells #[.int .i64 y1, .int .i64 y2] 2)))
      have HDA := Lib.hid (fun y1 y2 => HRD.out.below ((Below.refl w4.heap.size w4).alloc (Nat.le_refl _) (.cells #[.int .i64 y1, .int .i64 y2] 2)))
      go_upto_region 9 with (at_builtin; go_loud (refine app_list _ rfl (.tmp 27) (.tmp 36) rfl w.heap.size Try.underlying26 info64 v (slTo t k) rfl (HOA.out _ _) _ 2 _ [x.mode * 16 + x.round, x.slot] rfl (rd_two _ _ _ _) (by have := HLE.out; have := HN1.out; omega) ((HBA.out _ _).size) ?_); intro v5 w5 o5 g5)
      clear q0 q1 q2 q3 q4 q5 q6 q7 hor hsh
      have HO5 := Lib.hid o5
      have HB5 := Lib.hid ((HBA.out _ _).grown g5 (HBA.out _ _).size (fun q hq => HLB.out q hq))
      have HR5 := Lib.hid ((HRA.out _ _).only g5 (fun b' off' e h => by have h1 := HLB.out b' h; have h2 := HBL.out b' off' e (by omega); omega))
      have HD5 := Lib.hid ((HDA.out _ _).only g5 (fun b off e h => by rcases hq : v.ownBlock with _ | q; · rw [hq] at h; cases h
                                                                      · rw [hq] at h; exact HA4.out q hq b off e h))
      clear o5 g5 HOA HBA HRA HDA HRD HR4 HB4 HO4 HX4 HA4 HNE
      have hl5 : (slTo t k ++ [x.mode * 16 + x.round, x.slot]).length + 5 ≤ 4294967296 := by rw [List.length_append]; simp only [List.length_cons, List.length_nil]; have := HLE.out; have := HN1.out; omega
      have HSU2 := Lib.hid (show slTo t (k + 1) = (slTo t k ++ [x.mode * 16 + x.round, x.slot]) ++ descBytes x.desc from by rw [HSUC.out, List.append_assoc]; rfl)
      have HDL := Lib.hid (show (descBytes x.desc).length = 5 from rfl)
      generalize descBytes x.desc = ds at HD5 HSU2 HDL
      have hd5 := HDL.out
      rw [hd5] at HD5
      rw [hd5]
      go_upto_region 10 with (at_builtin; refine append_list _ rfl (.tmp 38) (.tmp 39) rfl w.heap.size Try.underlying26 info64 v5 (slTo t k ++ [x.mode * 16 + x.round, x.slot]) rfl HO5.out _ _ _ ds rfl HD5.out hl5 HB5.out.size ?_; intro v6 w6 o6 b6)
      rw [← HSU2.out] at o6
      have HO6 := Lib.hid o6
      have HR6 := Lib.hid (HR5.out.below2 b6 (fun b' off' e => HBL.out b' off' e (by omega)))
      have HB6 := Lib.hid (HB5.out.trans b6)
      clear o6 b6
      go_wp2_with fail
      go_roundw
      case rel => exact ⟨k + 1, v6, by omega, rfl, by go_num, HO6, HB6, HR6⟩
      case measure => simp [intOf]; omega
    · have hkn : k = n := by omega
      subst hkn
      go_wp2_with fail
      go_ret2
      rw [HALL.out]
      exact ⟨v, rfl, HO.out, HB.out⟩
set_option maxHeartbeats 2000000 in
set_option maxRecDepth 100000 in
set_option linter.unusedSimpArgs false in
theorem l12Bytes_any (ao : Option Addr) (n cap : Nat) (t : List Sl) (w : World) (hr : RdE w ao n t) (hn : n ≤ 100000) (hin : ∀ x ∈ t, slIn x) :
    Calls Try.prog 83 #[.slice ao n cap] w (Makes 2 w (slotBytes t)) := by
  have HL := Lib.hid hr.len
  have HR := Lib.hid hr
  have HIN := Lib.hid hin
  have HALL := Lib.hid ((slTo_all t).symm.trans (by rw [HL.out] : slTo t t.length = slTo t n))
  have HN := Lib.hid hn
  have HE := Lib.hid (slTo_zero t)
  rw [HL.out] at HE
  have o0 := Own.one (E := 2) (base := w.heap.size) (w := w) (n : Int) (Nat.le_refl _)
  have b0 := (Below.refl w.heap.size w).alloc (Nat.le_refl _) (.cells #[.int .i64 (n : Int)] 2)
  rw [← HE.out] at o0
  clear hr hin
  go_enter Try.func83, Try.ntmps83
  go_wp2_with fail
  go_loopw [3, 4] (fun s i wr => ∃ (k : Nat) (v : Value), k ≤ n ∧ v = s ∧ i = .int .i64 k ∧ Hid (Own 2 wr w.heap.size v (slTo t k)) ∧ Hid (Below w.heap.size w wr)) (fun _ i _ => n - (intOf i).toNat)
  case atStart => exact ⟨0, _, Nat.zero_le _, rfl, rfl, o0, b0⟩
  case round =>
    clear o0 b0
    obtain ⟨k, v, hk, rfl, rfl, HO, HB⟩ := hrel
    by_cases hlt : k < n
    · obtain ⟨b, off, e0, hg, hx⟩ := HR.out.at hlt
      subst e0
      obtain ⟨⟨i1, i2⟩, ⟨i3, i4⟩, i5⟩ := HIN.out _ (slOf_mem (t := t) (i := k) (by rw [HL.out]; exact hlt))
      have HSUC := Lib.hid (slTo_succ (t := t) (k := k) (by rw [HL.out]; exact hlt))
      have HLE := Lib.hid (slTo_le (t := t) (k := k) (by rw [HL.out]; omega))
      obtain ⟨x, hxe⟩ : ∃ x, x = slOf t k := ⟨_, rfl⟩
      rw [← hxe] at hx HSUC i1 i2 i3 i4 i5
      have hsh : IntKind.i64.wrap (x.mode * 16) = x.mode * 16 := by rw [IntKind.wrap_i64]; omega
      have hsa : IntKind.i64.wrap (x.mode * 16 + x.round) = x.mode * 16 + x.round := by rw [IntKind.wrap_i64]; omega
      have HDB := Lib.hid (fun W => l08Bytes_any x.desc.node x.desc.kind x.desc.size x.desc.dur x.desc.chg W i5)
      have HX := Lib.hid hx; have HG := Lib.hid hg
      have HN1 := Lib.hid (show k ≤ 100000 from by have := HN.out; omega)
      clear hx hg hxe i1 i2 i3 i4 i5
      go_upto_region 5 with fail
      refine wp_region_held_drew (S := fun w' => w'.cell? ⟨b, off + k * 8, none⟩ = some (.int .i64 x.mode) ∧ w'.cell? ⟨b, off + k * 8 + 1, none⟩ = some (.int .i64 x.round) ∧ w'.cell? ⟨b, off + k * 8 + 2, none⟩ = some (.int .i64 x.slot)) (by kernel_rfl) (⟨(HX.out.below HB.out HG.out).c0, (HX.out.below HB.out HG.out).c1, (HX.out.below HB.out HG.out).c2⟩) (fun hHeld => ?_)
      refine wpAnyH_take (i := 0) (v := ?_) rfl (by kernel_rfl) (by kernel_rfl) (by kernel_rfl) (fun _ _ _ h => h) (Or.inl ⟨by rfl, ?_⟩) (by assumption) ?_
      rotate_left
      · (intro w hSw; (try dsimp only at hSw); go_simp; (try with_reducible rfl))
      try simp only [List.getElem_toArray, List.getElem_cons_succ, List.getElem_cons_zero, Act.put, List.setIfInBounds_toArray, List.set_cons_zero, List.set_cons_succ]
      refine wpAnyH_take (i := 1) (v := ?_) rfl (by kernel_rfl) (by kernel_rfl) (by kernel_rfl) (fun _ _ _ h => h) (Or.inl ⟨by rfl, ?_⟩) (by assumption) ?_
      rotate_left
      · (intro w hSw; (try dsimp only at hSw); go_simp; (try with_reducible rfl))
      try simp only [List.getElem_toArray, List.getElem_cons_succ, List.getElem_cons_zero, Act.put, List.setIfInBounds_toArray, List.set_cons_zero, List.set_cons_succ]
      refine wpAnyH_take (i := 2) (v := ?_) rfl (by kernel_rfl) (by kernel_rfl) (by kernel_rfl) (fun _ _ _ h => h) (Or.inl ⟨by rfl, ?_⟩) (by assumption) ?_
      rotate_left
      · (intro w hSw; (try dsimp only at hSw); go_simp; (try with_reducible rfl))
      try simp only [List.getElem_toArray, List.getElem_cons_succ, List.getElem_cons_zero, Act.put, List.setIfInBounds_toArray, List.set_cons_zero, List.set_cons_succ]
      refine wpAnyH_take (i := 3) (v := ?_) rfl (by kernel_rfl) (by kernel_rfl) (by kernel_rfl) (fun _ _ _ h => h) (Or.inl ⟨by rfl, ?_⟩) (by assumption) ?_
      rotate_left
      · (intro w hSw; (try dsimp only at hSw); go_simp; (try with_reducible rfl))
      try simp only [List.getElem_toArray, List.getElem_cons_succ, List.getElem_cons_zero, Act.put, List.setIfInBounds_toArray, List.set_cons_zero, List.set_cons_succ]
      refine wpAnyH_take (i := 4) (v := ?_) rfl (by kernel_rfl) (by kernel_rfl) (by kernel_rfl) (fun _ _ _ h => h) (Or.inl ⟨by rfl, ?_⟩) (by assumption) ?_
      rotate_left
      · (intro w hSw; (try dsimp only at hSw); go_simp; (try with_reducible rfl))
      try simp only [List.getElem_toArray, List.getElem_cons_succ, List.getElem_cons_zero, Act.put, List.setIfInBounds_toArray, List.set_cons_zero, List.set_cons_succ]
      refine wpAnyH_take (i := 5) (v := ?_) rfl (by kernel_rfl) (by kernel_rfl) (by kernel_rfl) (fun _ _ _ h => h) (Or.inl ⟨by rfl, ?_⟩) (by assumption) ?_
      rotate_left
      · (intro w hSw; (try dsimp only at hSw); go_simp; (try with_reducible rfl))
      try simp only [List.getElem_toArray, List.getElem_cons_succ, List.getElem_cons_zero, Act.put, List.setIfInBounds_toArray, List.set_cons_zero, List.set_cons_succ]
      refine wpAnyH_take (i := 6) (v := ?_) rfl (by kernel_rfl) (by kernel_rfl) (by kernel_rfl) (fun _ _ _ h => h) (Or.inl ⟨by rfl, ?_⟩) (by assumption) ?_
      rotate_left
      · (intro w hSw; (try dsimp only at hSw); go_simp; (try with_reducible rfl))
      try simp only [List.getElem_toArray, List.getElem_cons_succ, List.getElem_cons_zero, Act.put, List.setIfInBounds_toArray, List.set_cons_zero, List.set_cons_succ]
      refine wpAnyH_take (i := 7) (v := ?_) rfl (by kernel_rfl) (by kernel_rfl) (by kernel_rfl) (fun _ _ _ h => h) (Or.inl ⟨by rfl, ?_⟩) (by assumption) ?_
      rotate_left
      · (intro w hSw; (try dsimp only at hSw); go_simp; (try with_reducible rfl))
      try simp only [List.getElem_toArray, List.getElem_cons_succ, List.getElem_cons_zero, Act.put, List.setIfInBounds_toArray, List.set_cons_zero, List.set_cons_succ]
      refine wpAnyH_take (i := 8) (v := ?_) rfl (by kernel_rfl) (by kernel_rfl) (by kernel_rfl) (fun _ _ _ h => h) (Or.inl ⟨by rfl, ?_⟩) (by assumption) ?_
      rotate_left
      · (intro w hSw; (try dsimp only at hSw); go_simp; (try with_reducible rfl))
      try simp only [List.getElem_toArray, List.getElem_cons_succ, List.getElem_cons_zero, Act.put, List.setIfInBounds_toArray, List.set_cons_zero, List.set_cons_succ]
      refine wpAnyH_take (i := 9) (v := ?_) rfl (by kernel_rfl) (by kernel_rfl) (by kernel_rfl) (fun _ _ _ h => h) (Or.inl ⟨by rfl, ?_⟩) (by assumption) ?_
      rotate_left
      · (intro w hSw; (try dsimp only at hSw); go_simp; (try with_reducible rfl))
      try simp only [List.getElem_toArray, List.getElem_cons_succ, List.getElem_cons_zero, Act.put, List.setIfInBounds_toArray, List.set_cons_zero, List.set_cons_succ]
      refine wpAnyH_take (i := 10) (v := ?_) rfl (by kernel_rfl) (by kernel_rfl) (by kernel_rfl) (fun _ _ _ h => h) (Or.inl ⟨by rfl, ?_⟩) (by assumption) ?_
      rotate_left
      · (intro w hSw; (try dsimp only at hSw); go_simp; (try with_reducible rfl))
      try simp only [List.getElem_toArray, List.getElem_cons_succ, List.getElem_cons_zero, Act.put, List.setIfInBounds_toArray, List.set_cons_zero, List.set_cons_succ]
      refine wpAnyH_take (i := 11) (v := ?_) rfl (by kernel_rfl) (by kernel_rfl) (by kernel_rfl) (fun _ _ _ h => h) (Or.inl ⟨by rfl, ?_⟩) (by assumption) ?_
      rotate_left
      · (intro w hSw; (try dsimp only at hSw); go_simp; (try with_reducible rfl))
      try simp only [List.getElem_toArray, List.getElem_cons_succ, List.getElem_cons_zero, Act.put, List.setIfInBounds_toArray, List.set_cons_zero, List.set_cons_succ]
      refine wpAnyH_take (i := 12) (v := ?_) rfl (by kernel_rfl) (by kernel_rfl) (by kernel_rfl) (fun _ _ _ h => h) (Or.inl ⟨by rfl, ?_⟩) (by assumption) ?_
      rotate_left
      · (intro w hSw; (try dsimp only at hSw); go_simp; (try with_reducible rfl))
      try simp only [List.getElem_toArray, List.getElem_cons_succ, List.getElem_cons_zero, Act.put, List.setIfInBounds_toArray, List.set_cons_zero, List.set_cons_succ]
      refine wpAnyH_take (i := 13) (v := ?_) rfl (by kernel_rfl) (by kernel_rfl) (by kernel_rfl) (fun _ _ _ h => h) (Or.inl ⟨by rfl, ?_⟩) (by assumption) ?_
      rotate_left
      · (intro w hSw; (try dsimp only at hSw); go_simp; (try with_reducible rfl))
      try simp only [List.getElem_toArray, List.getElem_cons_succ, List.getElem_cons_zero, Act.put, List.setIfInBounds_toArray, List.set_cons_zero, List.set_cons_succ]
      refine wpAnyH_take (i := 14) (v := ?_) rfl (by kernel_rfl) (by kernel_rfl) (by kernel_rfl) (fun _ _ _ h => h) (Or.inl ⟨by rfl, ?_⟩) (by assumption) ?_
      rotate_left
      · (intro w hSw; (try dsimp only at hSw); go_simp; (try with_reducible rfl))
      try simp only [List.getElem_toArray, List.getElem_cons_succ, List.getElem_cons_zero, Act.put, List.setIfInBounds_toArray, List.set_cons_zero, List.set_cons_succ]
      refine wpAnyH_take (i := 15) (v := ?_) rfl (by kernel_rfl) (by kernel_rfl) (by kernel_rfl) (fun _ _ _ h => h) (Or.inl ⟨by rfl, ?_⟩) (by assumption) ?_
      rotate_left
      · (intro w hSw; (try dsimp only at hSw); go_simp; (try with_reducible rfl))
      try simp only [List.getElem_toArray, List.getElem_cons_succ, List.getElem_cons_zero, Act.put, List.setIfInBounds_toArray, List.set_cons_zero, List.set_cons_succ]
      refine wpAnyH_take (i := 16) (v := ?_) rfl (by kernel_rfl) (by kernel_rfl) (by kernel_rfl) (fun _ _ _ h => h) (Or.inl ⟨by rfl, ?_⟩) (by assumption) ?_
      rotate_left
      · (intro w hSw; (try dsimp only at hSw); go_simp; (try with_reducible rfl))
      try simp only [List.getElem_toArray, List.getElem_cons_succ, List.getElem_cons_zero, Act.put, List.setIfInBounds_toArray, List.set_cons_zero, List.set_cons_succ]
      refine wpAnyH_take (i := 17) (v := ?_) rfl (by kernel_rfl) (by kernel_rfl) (by kernel_rfl) (fun _ _ _ h => h) (Or.inl ⟨by rfl, ?_⟩) (by assumption) ?_
      rotate_left
      · (intro w hSw; (try dsimp only at hSw); go_simp; (try with_reducible rfl))
      try simp only [List.getElem_toArray, List.getElem_cons_succ, List.getElem_cons_zero, Act.put, List.setIfInBounds_toArray, List.set_cons_zero, List.set_cons_succ]
      have hd0 : Below wr.heap.size wr wr.drew := Below.drew (Below.refl wr.heap.size wr)
      have HO1 := Lib.hid (HO.out.below hd0)
      have HB1 := Lib.hid (below_two HB.out hd0)
      generalize wr.drew = wd at hHeld HO1 HB1 ⊢
      clear hd0
      have hrd3 := rd_two 2 (x.mode * 16 + x.round) x.slot wd
      have hbl : Below wd.heap.size wd (wd.alloc (.cells #[.int .i64 (x.mode * 16 + x.round), .int .i64 x.slot] 2)) := (Below.refl _ _).alloc (Nat.le_refl _) _
      have HO2 := Lib.hid (HO1.out.below hbl)
      have HB2 := Lib.hid (below_two HB1.out hbl)
      clear hbl
      refine wpAnyH_ready (rs := [18]) (by kernel_rfl) (by simp) (AllReadyH.cons rfl (fun K hK => ?_) AllReadyH.nil)
      go_simp
      refine hK.out _ _ ?_ (fun hHeld => ?_)
      · exact ⟨(HX.out.below HB2.out HG.out).c0, (HX.out.below HB2.out HG.out).c1, (HX.out.below HB2.out HG.out).c2⟩
      clear hK K
      try simp only [List.getElem_toArray, List.getElem_cons_succ, List.getElem_cons_zero, Act.put, List.setIfInBounds_toArray, List.set_cons_zero, List.set_cons_succ]
      refine wpAnyH_ready (rs := [19]) (by kernel_rfl) (by simp) (AllReadyH.cons rfl (fun K hK => ?_) AllReadyH.nil)
      refine app_op _ (.tmp 14) (.tmp 32) rfl w.heap.size Try.underlying26 info64 _ (slTo t k) rfl HO2.out _ 2 _ [x.mode * 16 + x.round, x.slot] rfl hrd3 (by have := HLE.out; have := HN1.out; omega) HB2.out.size ?_
      intro v5 w5 o5 g5
      have HB3 := Lib.hid (HB2.out.grown g5 HB2.out.size (fun k hk => (HO2.out.block k hk).1))
      have HO3 := Lib.hid o5; clear g5 o5 hrd3
      refine hK.out _ _ ?_ (fun hHeld => ?_)
      · exact ⟨(HX.out.below HB3.out HG.out).c0, (HX.out.below HB3.out HG.out).c1, (HX.out.below HB3.out HG.out).c2⟩
      clear hK K
      try simp only [List.getElem_toArray, List.getElem_cons_succ, List.getElem_cons_zero, Act.put, List.setIfInBounds_toArray, List.set_cons_zero, List.set_cons_succ]
      refine wpAnyH_take (i := 20) (v := ?_) rfl (by kernel_rfl) (by kernel_rfl) (by kernel_rfl) (fun _ _ _ h => h) (Or.inl ⟨by rfl, ?_⟩) (by assumption) ?_
      rotate_left
      · (intro w hSw; (try dsimp only at hSw); go_simp; (try with_reducible rfl))
      try simp only [List.getElem_toArray, List.getElem_cons_succ, List.getElem_cons_zero, Act.put, List.setIfInBounds_toArray, List.set_cons_zero, List.set_cons_succ]
      refine wpAnyH_done (by kernel_rfl) ?_ _
      clear hsh hsa
      have HSU2 := Lib.hid (show slTo t (k + 1) = (slTo t k ++ [x.mode * 16 + x.round, x.slot]) ++ descBytes x.desc from by rw [HSUC.out, List.append_assoc]; rfl)
      obtain ⟨q0, q1, q2, q3, q4, q5, q6, q7⟩ := (HX.out.below HB3.out HG.out).all8
      go_wp2_with fail
      refine (HDB.out _).mono ?_
      rintro e w6 hm
      obtain ⟨ao6, cap6, rfl, -, r6, b6⟩ := hm.get
      have HO4 := Lib.hid (HO3.out.below b6)
      have HB4 := Lib.hid (below_two HB3.out b6)
      have HRD := Lib.hid r6
      clear hm r6 b6 q0 q1 q2 q3 q4 q5 q6 q7 HDB
      have HDL := Lib.hid (show (descBytes x.desc).length = 5 from rfl)
      rw [show (⟨x.desc.node, x.desc.kind, x.desc.size, x.desc.dur, x.desc.chg⟩ : Ds) = x.desc from rfl] at HRD ⊢
      generalize descBytes x.desc = ds at HRD HSU2 HDL ⊢
      have hd5 := HDL.out
      rw [hd5] at HRD ⊢
      have hl5 : (slTo t k ++ [x.mode * 16 + x.round, x.slot]).length + 5 ≤ 4294967296 := by rw [List.length_append]; simp only [List.length_cons, List.length_nil]; have := HLE.out; have := HN1.out; omega
      go_wp2_with (at_builtin; refine append_list _ rfl (.tmp 34) (.tmp 40) rfl w.heap.size Try.underlying26 info64 _ (slTo t k ++ [x.mode * 16 + x.round, x.slot]) rfl HO4.out _ _ _ ds rfl HRD.out hl5 HB4.out.size ?_; intro v7 w7 o7 b7)
      rw [← HSU2.out] at o7
      have HO5 := Lib.hid o7; have HB5 := Lib.hid (HB4.out.trans b7)
      clear o7 b7
      go_wp2_with fail
      go_roundw
      case rel => exact ⟨k + 1, v7, by omega, rfl, by go_num, HO5, HB5⟩
      case measure => simp [intOf]; omega
    · have hkn : k = n := by omega
      subst hkn
      go_wp2_with fail
      go_ret
      rw [HALL.out]
      exact ⟨v, rfl, HO.out, HB.out⟩
set_option maxRecDepth 100000 in
theorem slotBytesS_any (ao : Option Addr) (n cap : Nat) (t : List Sl) (w : World) (hr : RdE w ao n t) (hn : n ≤ 1048576) :
    Calls Try.prog 40 #[.slice ao n cap] w (Makes2 2 w (slotTableBytes t).1 (slotTableBytes t).2) := by
  have HIS := Lib.hid (isSlsS_any ao n cap t w hr hn)
  have HR := Lib.hid hr
  rcases hi : isSls t with _ | _
  · rw [slTable_no hi]
    clear hr
    go_enter Try.func40, Try.ntmps40
    go_wp2_with fail
    refine HIS.out.mono ?_
    rintro e w1 ⟨rfl, b1⟩
    rw [hi]
    go_wp2_with fail
    go_ret2
    exact ⟨_, rfl, Own.nil_, b1⟩
  rw [slTable_yes hi]
  have hl : n ≤ 100000 := by have := (isSls_iff.1 hi).1; have := hr.len; omega
  have HL := Lib.hid hl
  have HIN := Lib.hid (slIn_all hi)
  clear hr hl
  go_enter Try.func40, Try.ntmps40
  go_wp2_with fail
  refine HIS.out.mono ?_
  rintro e w1 ⟨rfl, b1⟩
  rw [hi]
  have HB := Lib.hid b1
  have HC := Lib.hid (l12Bytes_any ao n cap t w1 (HR.out.below b1) HL.out HIN.out)
  clear b1
  go_wp2_with fail
  refine HC.out.mono ?_
  rintro e w2 ⟨v, rfl, o2, b2⟩
  go_wp2_with fail
  go_ret2
  exact ⟨v, rfl, o2.more HB.out.size, below_two HB.out b2⟩
end

section
open Go.RowKit

/-- What l12Read leaves. -/
def GotE (w : World) (o : Option (List Sl × Nat)) (e : Ending) (w' : World) : Prop :=
  match o with
  | some (t, a) => ∃ v, e = .returned (.tuple #[v, .int .i64 (a : Int), .bool true]) ∧ OwnE 93 w' w.heap.size v t ∧ Below w.heap.size w w'
  | none => ∃ v a, e = .returned (.tuple #[v, .int .i64 a, .bool false]) ∧ Below w.heap.size w w'
theorem sls_none {xs : List Int} {k : Nat} (h : slsTo xs k = none) : ∀ j, slsTo xs (k + j) = none
  | 0 => h
  | j + 1 => by rw [← Nat.add_assoc, slsTo, sls_none h j]; rfl
theorem rds_none {xs : List Int} {k : Nat} (h : slsTo xs k = none) (hk : k ≤ (xs.getD 0 0).toNat) : readSlots xs = none := by
  have h1 := sls_none h ((xs.getD 0 0).toNat - k)
  rw [show k + ((xs.getD 0 0).toNat - k) = (xs.getD 0 0).toNat from by omega] at h1
  unfold readSlots
  split
  · rfl
  · rw [h1]; rfl
theorem rds_tab {xs : List Int} {t : List Sl} (h0 : ¬ (xs.length = 0 ∨ xs.length < 1 + 7 * (xs.getD 0 0).toNat)) (h : slsTo xs (xs.getD 0 0).toNat = some t) : readSlots xs = if isSls t = true then some (t, 1 + 7 * (xs.getD 0 0).toNat) else none := by
  unfold readSlots
  rw [if_neg h0, h]; rfl
theorem sls_len {xs : List Int} : ∀ {k : Nat} {t : List Sl}, slsTo xs k = some t → t.length = k
  | 0, p, h => by cases h; rfl
  | k + 1, p, h => by
    rw [slsTo] at h
    obtain ⟨p0, h1, h2⟩ := Option.bind_eq_some_iff.1 h
    obtain ⟨q, h3, rfl⟩ := Option.map_eq_some_iff.1 h2
    rw [List.length_append, sls_len h1]; rfl
theorem rd_part {w : World} {b off n : Nat} {xs : List Int} (hc : ∀ i, i < n → w.cell? ⟨b, off + i, none⟩ = some (.int .i64 (xs.getD i 0))) (hl : xs.length = n) {a M : Nat} (h : a + M ≤ n) : Rd w (some ⟨b, off + a, none⟩) M ((xs.drop a).take M) :=
  ⟨by rw [List.length_take, List.length_drop]; omega, fun _ => ⟨b, off + a, rfl, fun i hi => by
    rw [Nat.add_assoc, hc (a + i) (by omega)]
    simp [List.getD, hi, List.getElem?_drop]⟩⟩
theorem five_of {ys : List Int} (h : ys.length = 5) : ∃ x0 x1 x2 x3 x4, ys = [x0, x1, x2, x3, x4] := by
  match ys, h with
  | [a, b, c, d, e], _ => exact ⟨a, b, c, d, e, rfl⟩
theorem descFrom_good {x0 x1 x2 x3 x4 : Int} (hb : isBytes [x0, x1, x2, x3, x4] = true) (h : (isDesc (descRead x0 x1 x2 x3 x4) && decide (descBytes (descRead x0 x1 x2 x3 x4) = [x0, x1, x2, x3, x4])) = true) : descFrom [x0, x1, x2, x3, x4] = (descRead x0 x1 x2 x3 x4, 0) := by
  rw [descFrom_bytes hb, if_pos (by simpa using h)]
theorem descFrom_ill {x0 x1 x2 x3 x4 : Int} (hb : isBytes [x0, x1, x2, x3, x4] = true) (h : (isDesc (descRead x0 x1 x2 x3 x4) && decide (descBytes (descRead x0 x1 x2 x3 x4) = [x0, x1, x2, x3, x4])) = false) : (descFrom [x0, x1, x2, x3, x4]).2 ≠ 0 := by
  rw [descFrom_bytes hb, if_neg (by intro hc; simp [hc.1, hc.2] at h)]
  simp

set_option maxHeartbeats 4000000 in
set_option maxRecDepth 100000 in
set_option linter.unusedSimpArgs false in
theorem l12Read_any (ao : Option Addr) (n cap : Nat) (xs : List Int) (w : World) (hr : Rd w ao n xs) (hn : n ≤ 1048576) (hcap : n ≤ cap) (_hcap2 : cap ≤ 9223372036854775807) (hby : ∀ x ∈ xs, 0 ≤ x ∧ x ≤ 255) :
    Calls Try.prog 87 #[.slice ao n cap] w (GotE w (readSlots xs)) := by
  have hl := hr.len
  by_cases h0 : n = 0
  · have hF : readSlots xs = none := by unfold readSlots; rw [if_pos (.inl (by omega))]
    rw [hF]
    have h0' : ((n : Int) == 0) = true := by rw [beq_iff_eq]; omega
    clear hr hF h0 hl
    go_enter Try.func87, Try.ntmps87
    go_wp2_with fail
    go_ret3
    exact ⟨_, _, rfl, Below.refl _ _⟩
  have h0' : ((n : Int) == 0) = false := by rw [beq_eq_false_iff_ne]; omega
  have hpni : (0 : Int) < (n : Int) := by omega
  obtain ⟨b, off, rfl, hc⟩ := hr.here (by omega)
  have hc0 := hc 0 (by omega)
  have hblt : b < w.heap.size := World.block_lt_of_cell? w _ hc0
  obtain ⟨N, hN⟩ : ∃ N : Nat, N = (xs.getD 0 0).toNat := ⟨_, rfl⟩
  have hn4 := bytes_at_rt hby 0
  have hN0 : xs.getD 0 0 = (N : Int) := by omega
  have hN1 : N ≤ 255 := by omega
  rw [hN0, Nat.add_zero] at hc0
  have hw1 : IntKind.i64.wrap (7 * (N : Int)) = 7 * (N : Int) := by rw [IntKind.wrap_i64]; omega
  have hw2 : IntKind.i64.wrap (1 + 7 * (N : Int)) = 1 + 7 * (N : Int) := by rw [IntKind.wrap_i64]; omega
  by_cases h7 : n < 1 + 7 * N
  · have hF : readSlots xs = none := by unfold readSlots; rw [if_pos (.inr (by rw [hl, ← hN]; exact h7))]
    rw [hF]
    have h7' : (n : Int) < 1 + 7 * (N : Int) := by omega
    clear hr hF h0 hl hc hN0 hN hn4
    go_enter Try.func87, Try.ntmps87
    go_wp2_with fail
    go_ret3
    exact ⟨_, _, rfl, Below.refl _ _⟩
  have h7' : ¬ (n : Int) < 1 + 7 * (N : Int) := by omega
  have h0x : ¬ (xs.length = 0 ∨ xs.length < 1 + 7 * (xs.getD 0 0).toNat) := by rw [hl, ← hN]; omega
  have HNONE := Lib.hid (fun k (h : slsTo xs k = none) (hk : k ≤ N) => rds_none h (by rw [← hN]; exact hk))
  have HTAB := Lib.hid (fun t (h : slsTo xs N = some t) => (by have h1 := rds_tab (t := t) h0x (by rw [← hN]; exact h); rw [← hN] at h1; exact h1 : readSlots xs = if isSls t = true then some (t, 1 + 7 * N) else none))
  have HCE := Lib.hid hc; have HBY := Lib.hid hby
  have HN7 := Lib.hid (show 1 + 7 * N ≤ n from by omega)
  have HLEN := Lib.hid hl
  have HC0 := Lib.hid (fun W (hW : Below w.heap.size w W) => (hW.cell (p := ⟨b, off, none⟩) hblt).trans hc0)
  clear hc hr hby hn4 hN0 hN h0 h0x h7 hl
  have hb0 : Below w.heap.size w (w.alloc (.cells #[] 93)) := (Below.refl _ _).alloc (Nat.le_refl _) _
  have HO0 := Lib.hid (OwnE.of_alloc_nil (E := 93) (w := w) (base := w.heap.size) (Nat.le_refl _))
  have HB0 := Lib.hid hb0; clear hb0
  go_enter Try.func87, Try.ntmps87
  go_wp2_with fail
  clear h0' h7' hc0
  go_loopw [5, 6] (fun s i wr => ∃ (k a : Nat) (v : Value) (t : List Sl), k ≤ N ∧ v = s ∧ i = .int .i64 (a : Int) ∧ Hid (a = 1 + 7 * k) ∧ Hid (slsTo xs k = some t) ∧ Hid (OwnE 93 wr w.heap.size v t) ∧ Hid (Below w.heap.size w wr)) (fun _ i _ => 1 + 7 * N - (intOf i).toNat)
  case atStart => exact ⟨0, 1, _, [], Nat.zero_le _, rfl, rfl, rfl, rfl, HO0.out, HB0.out⟩
  case round =>
    clear HO0 HB0
    obtain ⟨k, a, v, t, hk, rfl, rfl, HA, HT, HO, HB⟩ := hrel
    have hc0 := HC0.out _ HB.out
    by_cases hlt : k < N
    · have hal : (a : Int) < 1 + 7 * (N : Int) := by have := HA.out; omega
      have HAN := Lib.hid (show a + 7 ≤ n from by have := HA.out; have := HN7.out; omega)
      have HAB := Lib.hid (show a ≤ 2000 from by have := HA.out; omega)
      have hwa2 : IntKind.i64.wrap ((a : Int) + 2) = (a : Int) + 2 := by have := HAB.out; rw [IntKind.wrap_i64]; omega
      have hwa7 : IntKind.i64.wrap ((a : Int) + 7) = (a : Int) + 7 := by have := HAB.out; rw [IntKind.wrap_i64]; omega
      have l1 : (0 : Int) ≤ (a : Int) + 2 := by omega
      have l2 : (a : Int) + 2 ≤ (a : Int) + 7 := by omega
      have l3 : (a : Int) + 7 ≤ (cap : Int) := by have := HAN.out; omega
      have l4 : ((a : Int) + 2).toNat = a + 2 := by omega
      have l5 : ((a : Int) + 7).toNat = a + 7 := by omega
      have l6 : a + 7 - (a + 2) = 5 := by omega
      have HCW := Lib.hid (fun W (hW : Below w.heap.size w W) i (hi : i < n) => (hW.cell (p := ⟨b, off + i, none⟩) hblt).trans (HCE.out i hi))
      have hrd := rd_part (a := a + 2) (M := 5) (fun i hi => HCW.out _ HB.out i hi) HLEN.out (by have := HAN.out; omega)
      have hby5 : ∀ x ∈ (xs.drop (a + 2)).take 5, 0 ≤ x ∧ x ≤ 255 := fun x hx => HBY.out x (List.mem_of_mem_drop (List.mem_of_mem_take hx))
      have HT1 := Lib.hid (show slsTo xs (k + 1) = (slAt xs a).map fun x => t ++ [x] from by rw [slsTo, HT.out, HA.out]; rfl)
      have HAT := Lib.hid (show slAt xs a = if (descFrom ((xs.drop (a + 2)).take 5)).2 = 0 then some ⟨xs.getD a 0 / 16, xs.getD a 0 % 16, xs.getD (a + 1) 0, (descFrom ((xs.drop (a + 2)).take 5)).1⟩ else none from rfl)
      obtain ⟨x0, x1, x2, x3, x4, hx5⟩ := five_of (ys := (xs.drop (a + 2)).take 5) (by rw [List.length_take, List.length_drop, HLEN.out]; have := HAN.out; omega)
      rw [hx5] at hrd hby5 HAT
      have hb5 : isBytes [x0, x1, x2, x3, x4] = true := isBytes_iff.2 ⟨by simp, hby5⟩
      have HG := Lib.hid (descFrom_good hb5)
      have HI := Lib.hid (descFrom_ill hb5)
      have HCALL := Lib.hid (l08From_any b (off + (a + 2)) (cap - (a + 2)) x0 x1 x2 x3 x4 wr hrd hb5)
      obtain ⟨d, hd⟩ : ∃ d, d = descRead x0 x1 x2 x3 x4 := ⟨_, rfl⟩
      rw [← hd] at HG HI HCALL
      obtain ⟨c, hce⟩ : ∃ c, c = (isDesc d && decide (descBytes d = [x0, x1, x2, x3, x4])) := ⟨_, rfl⟩
      rw [← hce] at HG HI HCALL
      obtain ⟨D, hD⟩ : ∃ D, D = descFrom [x0, x1, x2, x3, x4] := ⟨_, rfl⟩
      rw [← hD] at HG HI HAT
      clear hd hce hD hx5 hrd hby5 hb5
      go_wp2_with fail
      refine HCALL.out.mono ?_
      rintro e w2 ⟨rfl, b2⟩
      have HB2 := Lib.hid (below_two HB.out b2)
      have HO2 := Lib.hid (HO.out.below b2)
      clear b2 HCALL hwa2 l1 l2 l3 l4 l5 l6 hal hc0
      rcases c with _ | _
      · have hF : readSlots xs = none := HNONE.out (k + 1) (by rw [HT1.out, HAT.out, if_neg (HI.out rfl)]; rfl) hlt
        have HF := Lib.hid hF
        have HBE := Lib.hid (HB2.out.alloc HB2.out.size (.cells #[.int .i64 d.node, .int .i64 d.kind, .int .i64 d.size, .int .i64 d.dur, .bool d.chg] 91))
        clear hF
        go_wp2_with fail
        go_ret3
        rw [HF.out]
        exact ⟨_, _, rfl, HBE.out⟩
      · have HDE := Lib.hid (HG.out rfl)
        have HT2 := Lib.hid (show slsTo xs (k + 1) = some (t ++ [⟨xs.getD a 0 / 16, xs.getD a 0 % 16, xs.getD (a + 1) 0, d⟩]) from by rw [HT1.out, HAT.out, HDE.out]; rfl)
        have bal := (Below.refl w2.heap.size w2).alloc (Nat.le_refl _) (.cells #[.int .i64 d.node, .int .i64 d.kind, .int .i64 d.size, .int .i64 d.dur, .bool d.chg] 91)
        have HV := Lib.hid (DescAt.new (T := 91) (n := d.node) (a := d.kind) (z := d.size) (u := d.dur) (c := d.chg) w2)
        have HB3 := Lib.hid (below_two HB2.out bal)
        have HO3 := Lib.hid (HO2.out.below bal)
        obtain ⟨y0, hy0⟩ : ∃ y, y = xs.getD a 0 := ⟨_, rfl⟩
        obtain ⟨y1, hy1⟩ : ∃ y, y = xs.getD (a + 1) 0 := ⟨_, rfl⟩
        have hyb := bytes_at_rt HBY.out a
        have HCA := Lib.hid (fun W (hW : Below w.heap.size w W) => (by rw [hy0]; exact HCW.out W hW a (by have := HAN.out; omega) : W.cell? ⟨b, off + a, none⟩ = some (.int .i64 y0)))
        have HCB := Lib.hid (fun W (hW : Below w.heap.size w W) => (by rw [hy1]; exact HCW.out W hW (a + 1) (by have := HAN.out; omega) : W.cell? ⟨b, off + (a + 1), none⟩ = some (.int .i64 y1)))
        rw [← hy0, ← hy1] at HT2
        rw [← hy0] at hyb
        clear bal HG HI HAT HT1 hy0 hy1 HDE
        go_upto_region 10 with fail
        generalize w2.alloc (.cells #[.int .i64 d.node, .int .i64 d.kind, .int .i64 d.size, .int .i64 d.dur, .bool d.chg] 91) = w3 at HV HB3 HO3 ⊢
        have hdv := fun (h : w2.heap.size < w3.heap.size) => h
        have hJ : w2.heap.size < w3.heap.size := HV.out.lt
        have HDW := Lib.hid (fun W (hW : Below w3.heap.size w3 W) => desc_cells (HV.out.below hW HV.out.lt))
        have bdr : Below w3.heap.size w3 w3.drew := Below.drew (Below.refl _ _)
        have HD := Lib.hid bdr
        have hai : (0 : Int) ≤ (a : Int) := by omega
        have han : (a : Int) < (n : Int) := by have := HAN.out; omega
        have ha1 : (a : Int) + 1 < (n : Int) := by have := HAN.out; omega
        have ha2 : IntKind.i64.wrap ((a : Int) + 1) = (a : Int) + 1 := by have := HAB.out; rw [IntKind.wrap_i64]; omega
        have ha3 : (0 : Int) ≤ (a : Int) + 1 := by omega
        have ha4 : ((a : Int) + 1).toNat = a + 1 := by omega
        have hq1 : IntKind.i64.wrap (y0 / 16) = y0 / 16 := by rw [IntKind.wrap_i64]; omega
        have hy0 : 0 ≤ y0 := hyb.1
        have htd : y0.tdiv 16 = y0 / 16 := by rw [Int.tdiv_eq_ediv_of_nonneg hy0]
        have htm : y0.tmod 16 = y0 % 16 := by rw [Int.tmod_eq_emod_of_nonneg hy0]
        clear bdr hdv
        refine wp_region_held_drew (S := fun w' => w'.cell? ⟨b, off + a, none⟩ = some (.int .i64 y0) ∧ w'.cell? ⟨b, off + (a + 1), none⟩ = some (.int .i64 y1) ∧ w'.cell? ⟨w2.heap.size, 0, none⟩ = some (.int .i64 d.node) ∧ w'.cell? ⟨w2.heap.size, 1, none⟩ = some (.int .i64 d.kind) ∧ w'.cell? ⟨w2.heap.size, 2, none⟩ = some (.int .i64 d.size) ∧ w'.cell? ⟨w2.heap.size, 3, none⟩ = some (.int .i64 d.dur) ∧ w'.cell? ⟨w2.heap.size, 4, none⟩ = some (.bool d.chg)) (by kernel_rfl) (⟨HCA.out _ (below_two HB3.out HD.out), HCB.out _ (below_two HB3.out HD.out), HDW.out _ HD.out⟩) (fun hHeld => ?_)
        generalize w3.drew = w4 at HD hHeld ⊢
        refine wpAnyH_take (i := 0) (v := ?_) rfl (by kernel_rfl) (by kernel_rfl) (by kernel_rfl) (fun _ _ _ h => h) (Or.inl ⟨by rfl, ?_⟩) (by assumption) ?_
        rotate_left
        · (intro w hSw; (try dsimp only at hSw); go_simp; (try with_reducible rfl))
        try simp only [List.getElem_toArray, List.getElem_cons_succ, List.getElem_cons_zero, Act.put, List.setIfInBounds_toArray, List.set_cons_zero, List.set_cons_succ]
        refine wpAnyH_take (i := 1) (v := ?_) rfl (by kernel_rfl) (by kernel_rfl) (by kernel_rfl) (fun _ _ _ h => h) (Or.inl ⟨by rfl, ?_⟩) (by assumption) ?_
        rotate_left
        · (intro w hSw; (try dsimp only at hSw); go_simp; (try with_reducible rfl))
        try simp only [List.getElem_toArray, List.getElem_cons_succ, List.getElem_cons_zero, Act.put, List.setIfInBounds_toArray, List.set_cons_zero, List.set_cons_succ]
        refine wpAnyH_take (i := 2) (v := ?_) rfl (by kernel_rfl) (by kernel_rfl) (by kernel_rfl) (fun _ _ _ h => h) (Or.inl ⟨by rfl, ?_⟩) (by assumption) ?_
        rotate_left
        · (intro w hSw; (try dsimp only at hSw); go_simp; (try with_reducible rfl))
        try simp only [List.getElem_toArray, List.getElem_cons_succ, List.getElem_cons_zero, Act.put, List.setIfInBounds_toArray, List.set_cons_zero, List.set_cons_succ]
        refine wpAnyH_take (i := 3) (v := ?_) rfl (by kernel_rfl) (by kernel_rfl) (by kernel_rfl) (fun _ _ _ h => h) (Or.inl ⟨by rfl, ?_⟩) (by assumption) ?_
        rotate_left
        · (intro w hSw; (try dsimp only at hSw); go_simp; (try with_reducible rfl))
        try simp only [List.getElem_toArray, List.getElem_cons_succ, List.getElem_cons_zero, Act.put, List.setIfInBounds_toArray, List.set_cons_zero, List.set_cons_succ]
        refine wpAnyH_take (i := 4) (v := ?_) rfl (by kernel_rfl) (by kernel_rfl) (by kernel_rfl) (fun _ _ _ h => h) (Or.inl ⟨by rfl, ?_⟩) (by assumption) ?_
        rotate_left
        · (intro w hSw; (try dsimp only at hSw); go_simp; (try with_reducible rfl))
        try simp only [List.getElem_toArray, List.getElem_cons_succ, List.getElem_cons_zero, Act.put, List.setIfInBounds_toArray, List.set_cons_zero, List.set_cons_succ]
        refine wpAnyH_take (i := 5) (v := ?_) rfl (by kernel_rfl) (by kernel_rfl) (by kernel_rfl) (fun _ _ _ h => h) (Or.inl ⟨by rfl, ?_⟩) (by assumption) ?_
        rotate_left
        · (intro w hSw; (try dsimp only at hSw); go_simp; (try with_reducible rfl))
        try simp only [List.getElem_toArray, List.getElem_cons_succ, List.getElem_cons_zero, Act.put, List.setIfInBounds_toArray, List.set_cons_zero, List.set_cons_succ]
        refine wpAnyH_take (i := 6) (v := ?_) rfl (by kernel_rfl) (by kernel_rfl) (by kernel_rfl) (fun _ _ _ h => h) (Or.inl ⟨by rfl, ?_⟩) (by assumption) ?_
        rotate_left
        · (intro w hSw; (try dsimp only at hSw); go_simp; (try with_reducible rfl))
        try simp only [List.getElem_toArray, List.getElem_cons_succ, List.getElem_cons_zero, Act.put, List.setIfInBounds_toArray, List.set_cons_zero, List.set_cons_succ]
        refine wpAnyH_take (i := 7) (v := ?_) rfl (by kernel_rfl) (by kernel_rfl) (by kernel_rfl) (fun _ _ _ h => h) (Or.inl ⟨by rfl, ?_⟩) (by assumption) ?_
        rotate_left
        · (intro w hSw; (try dsimp only at hSw); go_simp; (try with_reducible rfl))
        try simp only [List.getElem_toArray, List.getElem_cons_succ, List.getElem_cons_zero, Act.put, List.setIfInBounds_toArray, List.set_cons_zero, List.set_cons_succ]
        refine wpAnyH_take (i := 8) (v := ?_) rfl (by kernel_rfl) (by kernel_rfl) (by kernel_rfl) (fun _ _ _ h => h) (Or.inl ⟨by rfl, ?_⟩) (by assumption) ?_
        rotate_left
        · (intro w hSw; (try dsimp only at hSw); go_simp; (try with_reducible rfl))
        try simp only [List.getElem_toArray, List.getElem_cons_succ, List.getElem_cons_zero, Act.put, List.setIfInBounds_toArray, List.set_cons_zero, List.set_cons_succ]
        refine wpAnyH_take (i := 9) (v := ?_) rfl (by kernel_rfl) (by kernel_rfl) (by kernel_rfl) (fun _ _ _ h => h) (Or.inl ⟨by rfl, ?_⟩) (by assumption) ?_
        rotate_left
        · (intro w hSw; (try dsimp only at hSw); go_simp; (try with_reducible rfl))
        try simp only [List.getElem_toArray, List.getElem_cons_succ, List.getElem_cons_zero, Act.put, List.setIfInBounds_toArray, List.set_cons_zero, List.set_cons_succ]
        refine wpAnyH_take (i := 10) (v := ?_) rfl (by kernel_rfl) (by kernel_rfl) (by kernel_rfl) (fun _ _ _ h => h) (Or.inl ⟨by rfl, ?_⟩) (by assumption) ?_
        rotate_left
        · (intro w hSw; (try dsimp only at hSw); go_simp; (try with_reducible rfl))
        try simp only [List.getElem_toArray, List.getElem_cons_succ, List.getElem_cons_zero, Act.put, List.setIfInBounds_toArray, List.set_cons_zero, List.set_cons_succ]
        refine wpAnyH_take (i := 11) (v := ?_) rfl (by kernel_rfl) (by kernel_rfl) (by kernel_rfl) (fun _ _ _ h => h) (Or.inl ⟨by rfl, ?_⟩) (by assumption) ?_
        rotate_left
        · (intro w hSw; (try dsimp only at hSw); go_simp; (try with_reducible rfl))
        try simp only [List.getElem_toArray, List.getElem_cons_succ, List.getElem_cons_zero, Act.put, List.setIfInBounds_toArray, List.set_cons_zero, List.set_cons_succ]
        refine wpAnyH_take (i := 12) (v := ?_) rfl (by kernel_rfl) (by kernel_rfl) (by kernel_rfl) (fun _ _ _ h => h) (Or.inl ⟨by rfl, ?_⟩) (by assumption) ?_
        rotate_left
        · (intro w hSw; (try dsimp only at hSw); go_simp; (try with_reducible rfl))
        try simp only [List.getElem_toArray, List.getElem_cons_succ, List.getElem_cons_zero, Act.put, List.setIfInBounds_toArray, List.set_cons_zero, List.set_cons_succ]
        refine wpAnyH_take (i := 13) (v := ?_) rfl (by kernel_rfl) (by kernel_rfl) (by kernel_rfl) (fun _ _ _ h => h) (Or.inl ⟨by rfl, ?_⟩) (by assumption) ?_
        rotate_left
        · (intro w hSw; (try dsimp only at hSw); go_simp; (try with_reducible rfl))
        try simp only [List.getElem_toArray, List.getElem_cons_succ, List.getElem_cons_zero, Act.put, List.setIfInBounds_toArray, List.set_cons_zero, List.set_cons_succ]
        refine wpAnyH_take (i := 14) (v := ?_) rfl (by kernel_rfl) (by kernel_rfl) (by kernel_rfl) (fun _ _ _ h => h) (Or.inl ⟨by rfl, ?_⟩) (by assumption) ?_
        rotate_left
        · (intro w hSw; (try dsimp only at hSw); go_simp; (try with_reducible rfl))
        try simp only [List.getElem_toArray, List.getElem_cons_succ, List.getElem_cons_zero, Act.put, List.setIfInBounds_toArray, List.set_cons_zero, List.set_cons_succ]
        refine wpAnyH_take (i := 15) (v := ?_) rfl (by kernel_rfl) (by kernel_rfl) (by kernel_rfl) (fun _ _ _ h => h) (Or.inl ⟨by rfl, ?_⟩) (by assumption) ?_
        rotate_left
        · (intro w hSw; (try dsimp only at hSw); go_simp; (try with_reducible rfl))
        try simp only [List.getElem_toArray, List.getElem_cons_succ, List.getElem_cons_zero, Act.put, List.setIfInBounds_toArray, List.set_cons_zero, List.set_cons_succ]
        refine wpAnyH_take (i := 16) (v := ?_) rfl (by kernel_rfl) (by kernel_rfl) (by kernel_rfl) (fun _ _ _ h => h) (Or.inl ⟨by rfl, ?_⟩) (by assumption) ?_
        rotate_left
        · (intro w hSw; (try dsimp only at hSw); go_simp; (try with_reducible rfl))
        try simp only [List.getElem_toArray, List.getElem_cons_succ, List.getElem_cons_zero, Act.put, List.setIfInBounds_toArray, List.set_cons_zero, List.set_cons_succ]
        refine wpAnyH_take (i := 17) (v := ?_) rfl (by kernel_rfl) (by kernel_rfl) (by kernel_rfl) (fun _ _ _ h => h) (Or.inl ⟨by rfl, ?_⟩) (by assumption) ?_
        rotate_left
        · (intro w hSw; (try dsimp only at hSw); go_simp; (try with_reducible rfl))
        try simp only [List.getElem_toArray, List.getElem_cons_succ, List.getElem_cons_zero, Act.put, List.setIfInBounds_toArray, List.set_cons_zero, List.set_cons_succ]
        refine wpAnyH_ready (rs := [18]) (by kernel_rfl) (by simp) (AllReadyH.cons rfl (fun K hK => ?_) AllReadyH.nil)
        go_simp
        have HIN := Lib.hid (show SlIn (w4.alloc (.cells #[.int .i64 (y0 / 16), .int .i64 (y0 % 16), .int .i64 y1, .int .i64 d.node, .int .i64 d.kind, .int .i64 d.size, .int .i64 d.dur, .bool d.chg] 93)) w4.heap.size 0 ⟨y0 / 16, y0 % 16, y1, d⟩ from (SlBk.new (T := 93) (x := ⟨y0 / 16, y0 % 16, y1, d⟩) w4).in_)
        have HD5 := Lib.hid (HD.out.alloc HD.out.size (.cells #[.int .i64 (y0 / 16), .int .i64 (y0 % 16), .int .i64 y1, .int .i64 d.node, .int .i64 d.kind, .int .i64 d.size, .int .i64 d.dur, .bool d.chg] 93))
        have HO5 := Lib.hid (HO3.out.below HD5.out)
        have HB5 := Lib.hid (below_two HB3.out HD5.out)
        refine hK.out _ _ ?_ (fun hHeld => ?_)
        · exact ⟨HCA.out _ (below_two HB3.out HD5.out), HCB.out _ (below_two HB3.out HD5.out), HDW.out _ HD5.out⟩
        clear hK K
        try simp only [List.getElem_toArray, List.getElem_cons_succ, List.getElem_cons_zero, Act.put, List.setIfInBounds_toArray, List.set_cons_zero, List.set_cons_succ]
        refine wpAnyH_ready (rs := [19]) (by kernel_rfl) (by simp) (AllReadyH.cons rfl (fun K hK => ?_) AllReadyH.nil)
        refine app_sl _ (.tmp 44) (.tmp 62) rfl w.heap.size Try.underlying47 infoSl v t rfl HO5.out w4.heap.size 0 ⟨y0 / 16, y0 % 16, y1, d⟩ 1 rfl HIN.out (by have := sls_len HT.out; omega) HB5.out.size ?_
        intro v6 w6 o6 g6
        have HO6 := Lib.hid o6
        have HB6 := Lib.hid (HB5.out.grown g6 HB5.out.size (fun q hq => (HO5.out.block q hq).1))
        have HDW6 := Lib.hid (show DescAt 91 w6 w2.heap.size d.node d.kind d.size d.dur d.chg from (HV.out.below HD5.out HV.out.lt).grown g6 (by intro e; have := (HO2.out.block _ e.symm).2; omega))
        clear o6 g6
        refine hK.out _ _ ?_ (fun hHeld => ?_)
        · exact ⟨HCA.out _ HB6.out, HCB.out _ HB6.out, desc_cells HDW6.out⟩
        clear hK K
        try simp only [List.getElem_toArray, List.getElem_cons_succ, List.getElem_cons_zero, Act.put, List.setIfInBounds_toArray, List.set_cons_zero, List.set_cons_succ]
        refine wpAnyH_take (i := 20) (v := ?_) rfl (by kernel_rfl) (by kernel_rfl) (by kernel_rfl) (fun _ _ _ h => h) (Or.inl ⟨by rfl, ?_⟩) (by assumption) ?_
        rotate_left
        · (intro w hSw; (try dsimp only at hSw); go_simp; (try with_reducible rfl))
        try simp only [List.getElem_toArray, List.getElem_cons_succ, List.getElem_cons_zero, Act.put, List.setIfInBounds_toArray, List.set_cons_zero, List.set_cons_succ]
        refine wpAnyH_done (by kernel_rfl) ?_ _
        clear hai han ha1 ha2 ha3 ha4 hq1 htd htm hy0 hyb hJ
        have hab := HAB.out
        go_wp2_with fail
        go_roundw
        case rel => exact ⟨k + 1, a + 7, v6, _, by omega, rfl, by go_num, (show a + 7 = 1 + 7 * (k + 1) by have := HA.out; omega), HT2, HO6, HB6⟩
        case measure => have := HA.out; simp [intOf]; omega
    · have hkn : k = N := by omega
      subst hkn
      have hal : ¬ (a : Int) < 1 + 7 * (k : Int) := by have := HA.out; omega
      obtain ⟨ao', cap', e1, r1, -⟩ := HO.out.form
      subst e1
      have hts := sls_len HT.out
      have HSL := Lib.hid (fun W (hW : Below wr.heap.size wr W) => isSlsS_any ao' t.length cap' t W (r1.below hW) (by omega))
      have HTT := Lib.hid (HTAB.out t HT.out)
      clear r1 hts
      go_upto_region 11 with fail
      clear hal
      have bdr : Below wr.heap.size wr wr.drew := Below.drew (Below.refl _ _)
      have HD := Lib.hid bdr
      have HOB := Lib.hid (fun W (hW : Below wr.heap.size wr W) => And.intro (HO.out.below hW) (below_two HB.out hW))
      have hpn : 0 < n := by omega
      clear bdr hc0
      refine wp_region_held_drew (S := fun w' => w'.cell? ⟨b, off, none⟩ = some (.int .i64 (k : Int))) (by kernel_rfl) (HC0.out _ (HOB.out _ HD.out).2) (fun hHeld => ?_)
      generalize wr.drew = w2 at HD hHeld ⊢
      refine wpAnyH_take (i := 0) (v := ?_) rfl (by kernel_rfl) (by kernel_rfl) (by kernel_rfl) (fun _ _ _ h => h) (Or.inl ⟨by rfl, ?_⟩) (by assumption) ?_
      rotate_left
      · (intro w hSw; (try dsimp only at hSw); go_simp; (try with_reducible rfl))
      try simp only [List.getElem_toArray, List.getElem_cons_succ, List.getElem_cons_zero, Act.put, List.setIfInBounds_toArray, List.set_cons_zero, List.set_cons_succ]
      refine wpAnyH_take (i := 1) (v := ?_) rfl (by kernel_rfl) (by kernel_rfl) (by kernel_rfl) (fun _ _ _ h => h) (Or.inl ⟨by rfl, ?_⟩) (by assumption) ?_
      rotate_left
      · (intro w hSw; (try dsimp only at hSw); go_simp; (try with_reducible rfl))
      try simp only [List.getElem_toArray, List.getElem_cons_succ, List.getElem_cons_zero, Act.put, List.setIfInBounds_toArray, List.set_cons_zero, List.set_cons_succ]
      refine wpAnyH_take (i := 2) (v := ?_) rfl (by kernel_rfl) (by kernel_rfl) (by kernel_rfl) (fun _ _ _ h => h) (Or.inl ⟨by rfl, ?_⟩) (by assumption) ?_
      rotate_left
      · (intro w hSw; (try dsimp only at hSw); go_simp; (try with_reducible rfl))
      try simp only [List.getElem_toArray, List.getElem_cons_succ, List.getElem_cons_zero, Act.put, List.setIfInBounds_toArray, List.set_cons_zero, List.set_cons_succ]
      refine wpAnyH_take (i := 3) (v := ?_) rfl (by kernel_rfl) (by kernel_rfl) (by kernel_rfl) (fun _ _ _ h => h) (Or.inl ⟨by rfl, ?_⟩) (by assumption) ?_
      rotate_left
      · (intro w hSw; (try dsimp only at hSw); go_simp; (try with_reducible rfl))
      try simp only [List.getElem_toArray, List.getElem_cons_succ, List.getElem_cons_zero, Act.put, List.setIfInBounds_toArray, List.set_cons_zero, List.set_cons_succ]
      refine wpAnyH_take (i := 4) (v := ?_) rfl (by kernel_rfl) (by kernel_rfl) (by kernel_rfl) (fun _ _ _ h => h) (Or.inl ⟨by rfl, ?_⟩) (by assumption) ?_
      rotate_left
      · (intro w hSw; (try dsimp only at hSw); go_simp; (try with_reducible rfl))
      try simp only [List.getElem_toArray, List.getElem_cons_succ, List.getElem_cons_zero, Act.put, List.setIfInBounds_toArray, List.set_cons_zero, List.set_cons_succ]
      refine wpAnyH_take (i := 5) (v := ?_) rfl (by kernel_rfl) (by kernel_rfl) (by kernel_rfl) (fun _ _ _ h => h) (Or.inl ⟨by rfl, ?_⟩) (by assumption) ?_
      rotate_left
      · (intro w hSw; (try dsimp only at hSw); go_simp; (try with_reducible rfl))
      try simp only [List.getElem_toArray, List.getElem_cons_succ, List.getElem_cons_zero, Act.put, List.setIfInBounds_toArray, List.set_cons_zero, List.set_cons_succ]
      refine wpAnyH_take (i := 6) (v := ?_) rfl (by kernel_rfl) (by kernel_rfl) (by kernel_rfl) (fun _ _ _ h => h) (Or.inl ⟨by rfl, ?_⟩) (by assumption) ?_
      rotate_left
      · (intro w hSw; (try dsimp only at hSw); go_simp; (try with_reducible rfl))
      try simp only [List.getElem_toArray, List.getElem_cons_succ, List.getElem_cons_zero, Act.put, List.setIfInBounds_toArray, List.set_cons_zero, List.set_cons_succ]
      refine wpAnyH_ready (rs := [7]) (by kernel_rfl) (by simp) (AllReadyH.cons rfl (fun K hK => ?_) AllReadyH.nil)
      go_simp
      refine (HSL.out _ HD.out).mono ?_
      rintro e w3 ⟨rfl, b3⟩
      have HD3 := Lib.hid (below_two HD.out b3); clear b3
      go_wp2_with fail
      refine hK.out _ _ ?_ (fun hHeld => ?_)
      · exact HC0.out _ (HOB.out _ HD3.out).2
      clear hK K
      try simp only [List.getElem_toArray, List.getElem_cons_succ, List.getElem_cons_zero, Act.put, List.setIfInBounds_toArray, List.set_cons_zero, List.set_cons_succ]
      refine wpAnyH_take (i := 8) (v := ?_) rfl (by kernel_rfl) (by kernel_rfl) (by kernel_rfl) (fun _ _ _ h => h) (Or.inl ⟨by rfl, ?_⟩) (by assumption) ?_
      rotate_left
      · (intro w hSw; (try dsimp only at hSw); go_simp; (try with_reducible rfl))
      try simp only [List.getElem_toArray, List.getElem_cons_succ, List.getElem_cons_zero, Act.put, List.setIfInBounds_toArray, List.set_cons_zero, List.set_cons_succ]
      refine wpAnyH_take (i := 9) (v := ?_) rfl (by kernel_rfl) (by kernel_rfl) (by kernel_rfl) (fun _ _ _ h => h) (Or.inl ⟨by rfl, ?_⟩) (by assumption) ?_
      rotate_left
      · (intro w hSw; (try dsimp only at hSw); go_simp; (try with_reducible rfl))
      try simp only [List.getElem_toArray, List.getElem_cons_succ, List.getElem_cons_zero, Act.put, List.setIfInBounds_toArray, List.set_cons_zero, List.set_cons_succ]
      refine wpAnyH_take (i := 10) (v := ?_) rfl (by kernel_rfl) (by kernel_rfl) (by kernel_rfl) (fun _ _ _ h => h) (Or.inl ⟨by rfl, ?_⟩) (by assumption) ?_
      rotate_left
      · (intro w hSw; (try dsimp only at hSw); go_simp; (try with_reducible rfl))
      try simp only [List.getElem_toArray, List.getElem_cons_succ, List.getElem_cons_zero, Act.put, List.setIfInBounds_toArray, List.set_cons_zero, List.set_cons_succ]
      refine wpAnyH_done (by kernel_rfl) ?_ _
      go_wp2_with fail
      go_ret3
      rw [HTT.out]
      obtain ⟨o3, b3⟩ := HOB.out _ HD3.out
      rcases isSls t with _ | _
      · rw [if_neg (by simp)]
        exact ⟨_, _, rfl, b3⟩
      · rw [if_pos rfl]
        exact ⟨_, rfl, o3, b3⟩
theorem rsS_range {xs : List Int} (h : isBytes xs = false) : readSlotTable xs = ([], 0, 2) := by unfold readSlotTable; rw [if_pos h]
theorem rsS_none {xs : List Int} (h : isBytes xs = true) (h2 : readSlots xs = none) : readSlotTable xs = ([], 0, 6) := by unfold readSlotTable; rw [if_neg (by rw [h]; simp), h2]
theorem rsS_some {xs : List Int} {t : List Sl} {a : Nat} (h : isBytes xs = true) (h2 : readSlots xs = some (t, a)) : readSlotTable xs = (t, (a : Int), 0) := by unfold readSlotTable; rw [if_neg (by rw [h]; simp), h2]
set_option maxRecDepth 100000 in
set_option maxHeartbeats 1000000 in
theorem readSlotsS_any (ao : Option Addr) (n cap : Nat) (xs : List Int) (w : World) (hr : Rd w ao n xs) (hn : n ≤ 1048576) (hcap : n ≤ cap) (hcap2 : cap ≤ 9223372036854775807) :
    Calls Try.prog 43 #[.slice ao n cap] w (MakesE3 93 w (readSlotTable xs).1 (readSlotTable xs).2.1 (readSlotTable xs).2.2) := by
  have HIB := Lib.hid (sIsBytes_any ao n cap xs w hr (by omega))
  rcases hby : isBytes xs with _ | _
  · have HF := Lib.hid (rsS_range hby)
    rw [HF.out]
    clear hr
    go_enter Try.func43, Try.ntmps43
    go_wp2_with fail
    refine HIB.out.mono ?_
    rintro e w1 ⟨rfl, rfl⟩
    rw [hby]
    go_wp2_with fail
    go_ret3
    exact ⟨_, rfl, OwnE.nil_, Below.refl _ _⟩
  have HR := Lib.hid (fun W (hW : Below w.heap.size w W) => l12Read_any ao n cap xs W (hr.below hW) hn hcap hcap2 (isBytes_iff.1 hby).2)
  rcases hp : readSlots xs with _ | ⟨t, a⟩
  · have HF := Lib.hid (rsS_none hby hp)
    rw [HF.out]
    rw [hp] at HR
    clear hr
    go_enter Try.func43, Try.ntmps43
    go_wp2_with fail
    refine HIB.out.mono ?_
    rintro e w1 ⟨rfl, rfl⟩
    rw [hby]
    go_wp2_with fail
    refine (HR.out _ (Below.refl _ _)).mono ?_
    rintro e w2 ⟨v, x, rfl, b2⟩
    go_wp2_with fail
    go_ret3
    exact ⟨_, rfl, OwnE.nil_, b2⟩
  · have HF := Lib.hid (rsS_some hby hp)
    rw [HF.out]
    rw [hp] at HR
    clear hr
    go_enter Try.func43, Try.ntmps43
    go_wp2_with fail
    refine HIB.out.mono ?_
    rintro e w1 ⟨rfl, rfl⟩
    rw [hby]
    go_wp2_with fail
    refine (HR.out _ (Below.refl _ _)).mono ?_
    rintro e w2 ⟨v, rfl, o2, b2⟩
    go_wp2_with fail
    go_ret3
    exact ⟨_, rfl, o2, b2⟩
end
end Go.Proofs.Ytpedlofckbplmaa
