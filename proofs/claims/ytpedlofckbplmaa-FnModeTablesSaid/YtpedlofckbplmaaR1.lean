/-
  Chapter 11: the bytes of a table, by the model.
-/
import Derived.Test.YtpedlofckbplmaaP1
import Derived.Test.YtpedlofckbplmaaSame
namespace Go.Proofs.Ytpedlofckbplmaa
open Go.RowKit

def modTo (t : List Md) (k : Nat) : List Int := [(t.length : Int)] ++ (t.take k).flatMap mdBytes
theorem modTo_zero (t : List Md) : modTo t 0 = [(t.length : Int)] := by simp [modTo]
theorem modTo_all (t : List Md) : modTo t t.length = modeBytes t := by unfold modTo modeBytes; rw [List.take_length]
theorem modTo_succ {t : List Md} {k : Nat} (h : k < t.length) : modTo t (k + 1) = (modTo t k ++ [(mdOf t k).rounds, (mdOf t k).slots, ((mdOf t k).next.length : Int)]) ++ (mdOf t k).next := by
  unfold modTo
  rw [List.take_succ_eq_append_getElem h, List.flatMap_append, ← mdOf_get h]
  simp [mdBytes]
theorem modTo_le {t : List Md} {k : Nat} : (modTo t k).length ≤ (modeBytes t).length := by
  have e : modeBytes t = modTo t k ++ (t.drop k).flatMap mdBytes := by
    unfold modTo modeBytes
    rw [List.append_assoc, ← List.flatMap_append, List.take_append_drop]
  rw [e, List.length_append]; omega
theorem own_farM {E base : Nat} {w : World} {v : Value} {xs : List Int} (h : Own E w base v xs) {g : Nat} (hg : g < base) : some g ≠ v.ownBlock := fun e => by
  have := (h.block g e.symm).1
  omega
set_option maxHeartbeats 2000000 in
set_option maxRecDepth 100000 in
set_option linter.unusedSimpArgs false in
/-- spec.l11Bytes. -/
theorem l11Bytes_any (ao : Option Addr) (n cap : Nat) (cs : List Mc) (w : World) (hr : RdM w ao n cs) (hn : n ≤ 1048576) (hB : (modeBytes (mds cs)).length ≤ 1048576) :
    Calls Try.prog 69 #[.slice ao n cap] w (Makes 2 w (modeBytes (mds cs))) := by
  have HL := Lib.hid ((mds_len cs).trans hr.len)
  have HBL := Lib.hid hB; clear hB
  have HR := Lib.hid hr; clear hr
  go_enter Try.func69, Try.ntmps69
  go_wp2_with fail
  have hone := Own.one (E := 2) (base := w.heap.size) (w := w) (n : Int) (Nat.le_refl _)
  have htz : modTo (mds cs) 0 = [(n : Int)] := by rw [modTo_zero, HL.out]
  rw [← htz] at hone
  have hb0 : Below w.heap.size w (w.alloc (.cells #[.int .i64 (n : Int)] 2)) := (Below.refl _ _).alloc (Nat.le_refl _) _
  go_loopw [3, 4] (fun o i wr => ∃ k : Nat, k ≤ n ∧ i = .int .i64 k ∧ Own 2 wr w.heap.size o (modTo (mds cs) k) ∧ Below w.heap.size w wr) (fun _ i _ => n - (intOf i).toNat)
  case atStart => exact ⟨0, Nat.zero_le _, rfl, hone, hb0⟩
  case round =>
    clear hone htz hb0
    obtain ⟨k, hk, rfl, hown, hb⟩ := hrel
    by_cases hlt : k < n
    · have hkt : k < (mds cs).length := by rw [HL.out]; exact hlt
      obtain ⟨g, off, rfl, hg, hx, hrd⟩ := HR.out.at hlt
      have hsucc := modTo_succ hkt
      have hle : (modTo (mds cs) (k + 1)).length ≤ 1048576 := Nat.le_trans modTo_le HBL.out
      rw [mdOf_mds] at hsucc
      rw [hsucc, List.length_append, List.length_append] at hle
      generalize mcOf cs k = c at hx hrd hsucc hle
      obtain ⟨hd, hde⟩ : ∃ hd, hd = modTo (mds cs) k := ⟨_, rfl⟩
      rw [← hde] at hown hle hsucc
      have HLE := Lib.hid hle; have HSU := Lib.hid hsucc; have HB := Lib.hid hb; have HO := Lib.hid hown; have HG := Lib.hid hg; have HX := Lib.hid hx
      clear hde hle hsucc hb hown hkt hg hx
      obtain ⟨⟨r, s, xs⟩, xo, xc⟩ := c
      have HRD := Lib.hid hrd.rd; clear hrd
      dsimp only at HRD HLE HSU HX
      go_upto_region 5 with fail
      refine wp_region_held_drew (S := fun w' => w'.cell? ⟨g, off + k * 3, none⟩ = some (.int .i64 r) ∧ w'.cell? ⟨g, off + k * 3 + 1, none⟩ = some (.int .i64 s) ∧ w'.cell? ⟨g, off + k * 3 + 2, none⟩ = some (.slice xo xs.length xc)) (by kernel_rfl) (⟨(HX.out.below HB.out HG.out).c0, (HX.out.below HB.out HG.out).c1, (HX.out.below HB.out HG.out).c2⟩) (fun hHeld => ?_)
      refine wpAnyH_take (i := 0) (v := ?_) rfl (by kernel_rfl) (by kernel_rfl) (by kernel_rfl) (fun _ _ _ h => h) (Or.inl ⟨by rfl, ?_⟩) (by assumption) ?_
      rotate_left
      · (intro w hSw; (try dsimp only at hSw); go_simp; (try with_reducible rfl))
      try simp only [List.getElem_toArray, List.getElem_cons_succ, List.getElem_cons_zero, Act.put, List.setIfInBounds_toArray, List.set_cons_zero, List.set_cons_succ]
      refine wpAnyH_take (i := 1) (v := ?_) rfl (by kernel_rfl) (by kernel_rfl) (by kernel_rfl) (fun _ _ _ h => h) (Or.inl ⟨by rfl, ?_⟩) (by assumption) ?_
      rotate_left
      · (intro w hSw; (try dsimp only at hSw); go_simp; (try with_reducible rfl))
      try simp only [List.getElem_toArray, List.getElem_cons_succ, List.getElem_cons_zero, Act.put, List.setIfInBounds_toArray, List.set_cons_zero, List.set_cons_succ]
      refine wpAnyH_take (i := 2) (v := ?_) rfl (by kernel_rfl) (by kernel_rfl) (by kernel_rfl) (fun _ _ _ h => h) (Or.inl ⟨by rfl, ?_⟩) (by assumption) ?_
      rotate_left
      · (intro w hSw; (try dsimp only at hSw); go_simp; (try with_reducible rfl))
      try simp only [List.getElem_toArray, List.getElem_cons_succ, List.getElem_cons_zero, Act.put, List.setIfInBounds_toArray, List.set_cons_zero, List.set_cons_succ]
      refine wpAnyH_take (i := 3) (v := ?_) rfl (by kernel_rfl) (by kernel_rfl) (by kernel_rfl) (fun _ _ _ h => h) (Or.inl ⟨by rfl, ?_⟩) (by assumption) ?_
      rotate_left
      · (intro w hSw; (try dsimp only at hSw); go_simp; (try with_reducible rfl))
      try simp only [List.getElem_toArray, List.getElem_cons_succ, List.getElem_cons_zero, Act.put, List.setIfInBounds_toArray, List.set_cons_zero, List.set_cons_succ]
      refine wpAnyH_take (i := 4) (v := ?_) rfl (by kernel_rfl) (by kernel_rfl) (by kernel_rfl) (fun _ _ _ h => h) (Or.inl ⟨by rfl, ?_⟩) (by assumption) ?_
      rotate_left
      · (intro w hSw; (try dsimp only at hSw); go_simp; (try with_reducible rfl))
      try simp only [List.getElem_toArray, List.getElem_cons_succ, List.getElem_cons_zero, Act.put, List.setIfInBounds_toArray, List.set_cons_zero, List.set_cons_succ]
      refine wpAnyH_take (i := 5) (v := ?_) rfl (by kernel_rfl) (by kernel_rfl) (by kernel_rfl) (fun _ _ _ h => h) (Or.inl ⟨by rfl, ?_⟩) (by assumption) ?_
      rotate_left
      · (intro w hSw; (try dsimp only at hSw); go_simp; (try with_reducible rfl))
      try simp only [List.getElem_toArray, List.getElem_cons_succ, List.getElem_cons_zero, Act.put, List.setIfInBounds_toArray, List.set_cons_zero, List.set_cons_succ]
      refine wpAnyH_take (i := 6) (v := ?_) rfl (by kernel_rfl) (by kernel_rfl) (by kernel_rfl) (fun _ _ _ h => h) (Or.inl ⟨by rfl, ?_⟩) (by assumption) ?_
      rotate_left
      · (intro w hSw; (try dsimp only at hSw); go_simp; (try with_reducible rfl))
      try simp only [List.getElem_toArray, List.getElem_cons_succ, List.getElem_cons_zero, Act.put, List.setIfInBounds_toArray, List.set_cons_zero, List.set_cons_succ]
      refine wpAnyH_take (i := 7) (v := ?_) rfl (by kernel_rfl) (by kernel_rfl) (by kernel_rfl) (fun _ _ _ h => h) (Or.inl ⟨by rfl, ?_⟩) (by assumption) ?_
      rotate_left
      · (intro w hSw; (try dsimp only at hSw); go_simp; (try with_reducible rfl))
      try simp only [List.getElem_toArray, List.getElem_cons_succ, List.getElem_cons_zero, Act.put, List.setIfInBounds_toArray, List.set_cons_zero, List.set_cons_succ]
      refine wpAnyH_take (i := 8) (v := ?_) rfl (by kernel_rfl) (by kernel_rfl) (by kernel_rfl) (fun _ _ _ h => h) (Or.inl ⟨by rfl, ?_⟩) (by assumption) ?_
      rotate_left
      · (intro w hSw; (try dsimp only at hSw); go_simp; (try with_reducible rfl))
      try simp only [List.getElem_toArray, List.getElem_cons_succ, List.getElem_cons_zero, Act.put, List.setIfInBounds_toArray, List.set_cons_zero, List.set_cons_succ]
      refine wpAnyH_take (i := 9) (v := ?_) rfl (by kernel_rfl) (by kernel_rfl) (by kernel_rfl) (fun _ _ _ h => h) (Or.inl ⟨by rfl, ?_⟩) (by assumption) ?_
      rotate_left
      · (intro w hSw; (try dsimp only at hSw); go_simp; (try with_reducible rfl))
      try simp only [List.getElem_toArray, List.getElem_cons_succ, List.getElem_cons_zero, Act.put, List.setIfInBounds_toArray, List.set_cons_zero, List.set_cons_succ]
      refine wpAnyH_take (i := 10) (v := ?_) rfl (by kernel_rfl) (by kernel_rfl) (by kernel_rfl) (fun _ _ _ h => h) (Or.inl ⟨by rfl, ?_⟩) (by assumption) ?_
      rotate_left
      · (intro w hSw; (try dsimp only at hSw); go_simp; (try with_reducible rfl))
      try simp only [List.getElem_toArray, List.getElem_cons_succ, List.getElem_cons_zero, Act.put, List.setIfInBounds_toArray, List.set_cons_zero, List.set_cons_succ]
      refine wpAnyH_take (i := 11) (v := ?_) rfl (by kernel_rfl) (by kernel_rfl) (by kernel_rfl) (fun _ _ _ h => h) (Or.inl ⟨by rfl, ?_⟩) (by assumption) ?_
      rotate_left
      · (intro w hSw; (try dsimp only at hSw); go_simp; (try with_reducible rfl))
      try simp only [List.getElem_toArray, List.getElem_cons_succ, List.getElem_cons_zero, Act.put, List.setIfInBounds_toArray, List.set_cons_zero, List.set_cons_succ]
      refine wpAnyH_take (i := 12) (v := ?_) rfl (by kernel_rfl) (by kernel_rfl) (by kernel_rfl) (fun _ _ _ h => h) (Or.inl ⟨by rfl, ?_⟩) (by assumption) ?_
      rotate_left
      · (intro w hSw; (try dsimp only at hSw); go_simp; (try with_reducible rfl))
      try simp only [List.getElem_toArray, List.getElem_cons_succ, List.getElem_cons_zero, Act.put, List.setIfInBounds_toArray, List.set_cons_zero, List.set_cons_succ]
      refine wpAnyH_take (i := 13) (v := ?_) rfl (by kernel_rfl) (by kernel_rfl) (by kernel_rfl) (fun _ _ _ h => h) (Or.inl ⟨by rfl, ?_⟩) (by assumption) ?_
      rotate_left
      · (intro w hSw; (try dsimp only at hSw); go_simp; (try with_reducible rfl))
      try simp only [List.getElem_toArray, List.getElem_cons_succ, List.getElem_cons_zero, Act.put, List.setIfInBounds_toArray, List.set_cons_zero, List.set_cons_succ]
      refine wpAnyH_take (i := 14) (v := ?_) rfl (by kernel_rfl) (by kernel_rfl) (by kernel_rfl) (fun _ _ _ h => h) (Or.inl ⟨by rfl, ?_⟩) (by assumption) ?_
      rotate_left
      · (intro w hSw; (try dsimp only at hSw); go_simp; (try with_reducible rfl))
      try simp only [List.getElem_toArray, List.getElem_cons_succ, List.getElem_cons_zero, Act.put, List.setIfInBounds_toArray, List.set_cons_zero, List.set_cons_succ]
      refine wpAnyH_take (i := 15) (v := ?_) rfl (by kernel_rfl) (by kernel_rfl) (by kernel_rfl) (fun _ _ _ h => h) (Or.inl ⟨by rfl, ?_⟩) (by assumption) ?_
      rotate_left
      · (intro w hSw; (try dsimp only at hSw); go_simp; (try with_reducible rfl))
      try simp only [List.getElem_toArray, List.getElem_cons_succ, List.getElem_cons_zero, Act.put, List.setIfInBounds_toArray, List.set_cons_zero, List.set_cons_succ]
      refine wpAnyH_take (i := 16) (v := ?_) rfl (by kernel_rfl) (by kernel_rfl) (by kernel_rfl) (fun _ _ _ h => h) (Or.inl ⟨by rfl, ?_⟩) (by assumption) ?_
      rotate_left
      · (intro w hSw; (try dsimp only at hSw); go_simp; (try with_reducible rfl))
      try simp only [List.getElem_toArray, List.getElem_cons_succ, List.getElem_cons_zero, Act.put, List.setIfInBounds_toArray, List.set_cons_zero, List.set_cons_succ]
      have hd0 : Below wr.heap.size wr wr.drew := Below.drew (Below.refl wr.heap.size wr)
      have HO1 := Lib.hid (HO.out.below hd0)
      have HB1 := Lib.hid (below_two HB.out hd0)
      generalize wr.drew = wd at hHeld HO1 HB1 ⊢
      clear hd0
      have hrd3 := rd_three (T := 2) r s (xs.length : Int) wd
      have hbl : Below wd.heap.size wd (wd.alloc (.cells #[.int .i64 r, .int .i64 s, .int .i64 (xs.length : Int)] 2)) := (Below.refl _ _).alloc (Nat.le_refl _) _
      have HO2 := Lib.hid (HO1.out.below hbl)
      have HB2 := Lib.hid (below_two HB1.out hbl)
      clear hbl
      refine wpAnyH_ready (rs := [17]) (by kernel_rfl) (by simp) (AllReadyH.cons rfl (fun K hK => ?_) AllReadyH.nil)
      go_simp
      refine hK.out _ _ ?_ (fun hHeld => ?_)
      · exact ⟨(HX.out.below HB2.out HG.out).c0, (HX.out.below HB2.out HG.out).c1, (HX.out.below HB2.out HG.out).c2⟩
      clear hK K
      try simp only [List.getElem_toArray, List.getElem_cons_succ, List.getElem_cons_zero, Act.put, List.setIfInBounds_toArray, List.set_cons_zero, List.set_cons_succ]
      refine wpAnyH_ready (rs := [18]) (by kernel_rfl) (by simp) (AllReadyH.cons rfl (fun K hK => ?_) AllReadyH.nil)
      refine app_op _ (.tmp 14) (.tmp 31) rfl w.heap.size Try.underlying26 info64 _ hd rfl HO2.out _ 3 _ [r, s, (xs.length : Int)] rfl hrd3 (by have := HLE.out; simp only [List.length_cons, List.length_nil] at this; omega) HB2.out.size ?_
      intro v5 w5 o5 g5
      have HB3 := Lib.hid (HB2.out.grown g5 HB2.out.size (fun k hk => (HO2.out.block k hk).1))
      have HO3 := Lib.hid o5; clear g5 o5 hrd3
      refine hK.out _ _ ?_ (fun hHeld => ?_)
      · exact ⟨(HX.out.below HB3.out HG.out).c0, (HX.out.below HB3.out HG.out).c1, (HX.out.below HB3.out HG.out).c2⟩
      clear hK K
      try simp only [List.getElem_toArray, List.getElem_cons_succ, List.getElem_cons_zero, Act.put, List.setIfInBounds_toArray, List.set_cons_zero, List.set_cons_succ]
      refine wpAnyH_take (i := 19) (v := ?_) rfl (by kernel_rfl) (by kernel_rfl) (by kernel_rfl) (fun _ _ _ h => h) (Or.inl ⟨by rfl, ?_⟩) (by assumption) ?_
      rotate_left
      · (intro w hSw; (try dsimp only at hSw); go_simp; (try with_reducible rfl))
      try simp only [List.getElem_toArray, List.getElem_cons_succ, List.getElem_cons_zero, Act.put, List.setIfInBounds_toArray, List.set_cons_zero, List.set_cons_succ]
      refine wpAnyH_done (by kernel_rfl) ?_ _
      obtain ⟨d0, d1, d2⟩ := HX.out.below HB3.out HG.out
      go_wp2_with (at_builtin; refine append_list _ rfl (.tmp 33) (.tmp 38) rfl w.heap.size Try.underlying26 info64 _ _ rfl HO3.out _ _ _ xs rfl (HRD.out.below HB3.out) (by have := HLE.out; simp only [List.length_append, List.length_cons, List.length_nil] at this ⊢; omega) HB3.out.size ?_; intro v6 w6 o6 b6)
      have HO4 := Lib.hid o6; have HB4 := Lib.hid (HB3.out.trans b6)
      clear o6 b6 d0 d1 d2
      go_wp2_with fail
      go_roundw
      case rel => exact ⟨k + 1, by omega, by go_num, by rw [HSU.out]; exact HO4.out, HB4.out⟩
      case measure => simp [intOf]; omega
    · have hkn : k = n := by omega
      subst hkn
      have HB := Lib.hid hb; have HO := Lib.hid hown; clear hb hown
      go_wp2_with fail
      go_ret
      refine ⟨_, rfl, ?_, HB.out⟩
      have h := HO.out
      rw [← HL.out, modTo_all] at h
      exact h
end Go.Proofs.Ytpedlofckbplmaa
