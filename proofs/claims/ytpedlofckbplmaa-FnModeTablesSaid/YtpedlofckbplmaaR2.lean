/-
  Chapter 11: ModeTableBytes of the program and of its model.
-/
import Derived.Test.YtpedlofckbplmaaR1
import Derived.Test.YtpedlofckbplmaaQ2
namespace Go.Proofs.Ytpedlofckbplmaa
open Go.RowKit

theorem mb_yes {t : List Md} (h : isModes t = true) : modeTableBytes t = (modeBytes t, 0) := by unfold modeTableBytes; rw [if_pos h]
theorem mb_no {t : List Md} (h : isModes t = false) : modeTableBytes t = ([], 1) := by unfold modeTableBytes; rw [if_neg (by rw [h]; simp)]
theorem modeTableBytes_len (t : List Md) : (modeTableBytes t).1.length ≤ 1048576 := by
  unfold modeTableBytes
  split
  · rename_i h; have := modeBytes_len h; simp only; omega
  · simp
/-- spec.ModeTableBytes. -/
theorem modeBytesS_any (ao : Option Addr) (n cap : Nat) (cs : List Mc) (w : World) (hr : RdM w ao n cs) (hn : n ≤ 1048576) (hs : smallM cs) :
    Calls Try.prog 28 #[.slice ao n cap] w (Makes2 2 w (modeTableBytes (mds cs)).1 (modeTableBytes (mds cs)).2) := by
  have hcall := Lib.hid (isModesS_any ao n cap cs w hr hn hs)
  rcases ht : isModes (mds cs) with _ | _
  · rw [mb_no ht]
    clear hr hs
    go_enter Try.func28, Try.ntmps28
    go_wp2_with fail
    refine hcall.out.mono ?_
    rintro e w1 ⟨rfl, b1⟩
    rw [ht]
    go_wp2_with fail
    go_ret2
    exact ⟨_, rfl, Own.nil_, b1⟩
  rw [mb_yes ht]
  have HR := Lib.hid hr
  have hby := Lib.hid (fun W (h : RdM W ao n cs) => l11Bytes_any ao n cap cs W h hn (by have := modeBytes_len ht; omega))
  clear hr hs
  go_enter Try.func28, Try.ntmps28
  go_wp2_with fail
  refine hcall.out.mono ?_
  rintro e w1 ⟨rfl, b1⟩
  rw [ht]
  have HB1 := Lib.hid b1
  have HK := Lib.hid (hby.out _ (HR.out.below b1)); clear b1
  go_wp2_with fail
  refine HK.out.mono ?_
  rintro e w2 ⟨v, rfl, o2, b2⟩
  go_wp2_with fail
  go_ret2
  exact ⟨_, rfl, o2.more HB1.out.size, below_two HB1.out b2⟩
set_option maxHeartbeats 2000000 in
set_option maxRecDepth 100000 in
/-- impl.ModeTableBytes. -/
theorem modeBytesI_any (ao : Option Addr) (n cap : Nat) (cs : List Mc) (w : World) (hr : RdM w ao n cs) (hn : n ≤ 1048576) (hs : smallM cs) :
    Calls Try.prog 27 #[.slice ao n cap] w (Makes2 2 w (modeTableBytes (mds cs)).1 (modeTableBytes (mds cs)).2) := by
  have hcall := codeM_any ao n cap cs none 0 0 [] w hr hn hs Rd.nil_ (by omega)
  rw [codeM_nil] at hcall
  have HCALL := Lib.hid hcall; clear hcall
  rcases ht : isModes (mds cs) with _ | _
  · rw [mb_no ht]
    clear hr hs
    go_enter Try.func27, Try.ntmps27
    go_wp2_with fail
    refine HCALL.out.mono ?_
    rintro e w1 ⟨rfl, b1⟩
    rw [if_pos ht]
    go_wp2_with fail
    go_ret2
    exact ⟨_, rfl, Own.nil_, b1⟩
  rw [mb_yes ht]
  have HL := Lib.hid ((mds_len cs).trans hr.len)
  have HBL := Lib.hid (modeBytes_len ht)
  have HR := Lib.hid hr
  clear hr hs
  go_enter Try.func27, Try.ntmps27
  go_wp2_with fail
  refine HCALL.out.mono ?_
  rintro e w1 ⟨rfl, b1⟩
  rw [if_neg (by rw [ht]; simp)]
  have HB1 := Lib.hid b1; clear b1 HCALL
  go_wp2_with fail
  have hone := Own.one (E := 2) (base := w.heap.size) (w := w1) (n : Int) HB1.out.size
  have htz : modTo (mds cs) 0 = [(n : Int)] := by rw [modTo_zero, HL.out]
  rw [← htz] at hone
  have hb0 : Below w.heap.size w (w1.alloc (.cells #[.int .i64 (n : Int)] 2)) := HB1.out.alloc HB1.out.size _
  go_loopw [5, 18] (fun o i wr => ∃ k : Nat, k ≤ n ∧ i = .int .i64 k ∧ Own 2 wr w.heap.size o (modTo (mds cs) k) ∧ Below w.heap.size w wr) (fun _ i _ => n - (intOf i).toNat)
  case atStart => exact ⟨0, Nat.zero_le _, rfl, hone, hb0⟩
  case round =>
    clear hone htz hb0
    obtain ⟨k, hk, rfl, hown, hb⟩ := hrel
    by_cases hlt : k < n
    · have hkt : k < (mds cs).length := by rw [HL.out]; exact hlt
      obtain ⟨g, off, rfl, hg, hx, hrd⟩ := HR.out.at hlt
      replace hx := hx.below hb hg
      have hsucc := modTo_succ hkt
      have hle : (modTo (mds cs) (k + 1)).length ≤ 305 := Nat.le_trans modTo_le HBL.out
      rw [mdOf_mds] at hsucc
      rw [hsucc, List.length_append, List.length_append] at hle
      generalize mcOf cs k = c at hx hrd hsucc hle
      obtain ⟨hd, hde⟩ : ∃ hd, hd = modTo (mds cs) k := ⟨_, rfl⟩
      rw [← hde] at hown hle hsucc
      obtain ⟨⟨r, s, xs⟩, xo, xc⟩ := c
      have HRD := Lib.hid hrd.rd; clear hrd
      dsimp only at HRD hle hsucc
      simp only [List.length_cons, List.length_nil] at hle
      have HLE := Lib.hid hle; have HSU := Lib.hid hsucc
      clear hde hle hsucc hkt hg
      obtain ⟨h0, h1, h2⟩ := hx
      dsimp only at h0 h1 h2
      have hbb : Below wr.heap.size wr (wr.alloc (.cells #[.int .i64 r, .int .i64 s, .slice xo xs.length xc] 78)) := (Below.refl _ _).alloc (Nat.le_refl _) _
      have HAT := Lib.hid (McAt.new (T := 78) (c := ⟨⟨r, s, xs⟩, xo, xc⟩) wr)
      have HOW := Lib.hid (hown.below hbb)
      have HBE := Lib.hid (below_two hb hbb)
      clear hown hb hbb
      go_upto_region 8 with fail
      clear h0 h1 h2
      generalize hbx : wr.heap.size = bx at HAT ⊢
      generalize wr.alloc (.cells #[.int .i64 r, .int .i64 s, .slice xo xs.length xc] 78) = w3 at HAT HOW HBE ⊢
      clear hbx
      have hat := HAT.out
      obtain ⟨d0, d1, d2⟩ := hat.in_
      dsimp only at d0 d1 d2
      have hbl : Below w3.heap.size w3 (w3.alloc (.cells #[.int .i64 r, .int .i64 s, .int .i64 (xs.length : Int)] 2)) := (Below.refl _ _).alloc (Nat.le_refl _) _
      have HAT4 := Lib.hid (hat.below hbl hat.lt)
      have HOW4 := Lib.hid (HOW.out.below hbl)
      have HBE4 := Lib.hid (below_two HBE.out hbl)
      have hrd3 := rd_three (T := 2) r s (xs.length : Int) w3
      have HRD3 := Lib.hid hrd3
      clear hat hbl hrd3
      go_upto_region 9 with (at_builtin; refine app_list _ rfl (.tmp 22) (.tmp 30) rfl w.heap.size Try.underlying26 info64 _ hd rfl HOW4.out _ 3 _ [r, s, (xs.length : Int)] rfl HRD3.out (by have := HLE.out; omega) HBE4.out.size ?_; intro v5 w5 o5 g5)
      have HAT5 := Lib.hid (HAT4.out.grown g5 (ownsRow_ne HOW4.out HAT4.out (by decide)))
      have HBE5 := Lib.hid (HBE4.out.grown g5 HBE4.out.size (fun k hk => (HOW4.out.block k hk).1))
      have HO5 := Lib.hid o5
      clear d0 d1 d2 o5 g5
      obtain ⟨d0, d1, d2⟩ := HAT5.out.in_
      dsimp only at d0 d1 d2
      go_wp2_with (at_builtin; refine append_list _ rfl (.tmp 32) (.tmp 34) rfl w.heap.size Try.underlying26 info64 _ _ rfl HO5.out _ _ _ xs rfl (HRD.out.below HBE5.out) (by have := HLE.out; simp only [List.length_append, List.length_cons, List.length_nil]; omega) HBE5.out.size ?_; intro v6 w6 o6 b6)
      have HO6 := Lib.hid o6; have HB6 := Lib.hid (HBE5.out.trans b6)
      clear o6 b6 d0 d1 d2
      go_wp2_with fail
      go_roundw
      case rel => exact ⟨k + 1, by omega, by go_num, by rw [HSU.out]; exact HO6.out, HB6.out⟩
      case measure => simp [intOf]; omega
    · have hkn : k = n := by omega
      subst hkn
      have HB := Lib.hid hb; have HO := Lib.hid hown; clear hb hown
      go_wp2_with fail
      go_ret2
      refine ⟨_, rfl, ?_, HB.out⟩
      have h := HO.out
      rw [← HL.out, modTo_all] at h
      exact h
end Go.Proofs.Ytpedlofckbplmaa
