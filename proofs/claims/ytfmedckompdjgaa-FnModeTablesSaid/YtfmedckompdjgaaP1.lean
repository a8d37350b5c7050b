/-
  Chapter 11: the laws' functions on slices of modes: made, measured, compared.
-/
import Derived.Test.YtfmedckompdjgaaMw
import Derived.Test.YtfmedckompdjgaaOne
import Derived.Deep.DeepCutAuto
import Derived.Deep.RegionHeld3
namespace Go.Proofs.Ytfmedckompdjgaa
open Go.RowKit

theorem infoMd : (Try.prog.info? 81).map (fun i => (i.zero, i.size, i.bytes)) = some (some (mcVal Mc.zero), 3, 40) := by kernel_rfl
theorem ne_md : 81 ≠ 2 := by decide
set_option maxHeartbeats 1000000 in
set_option maxRecDepth 100000 in
/-- laws.toModeInfo: a copy, its list in new memory. -/
theorem toMode_any (c : Mc) (w : World) (h : McRd w c) (hn : c.md.next.length ≤ 1048576) :
    Calls Try.prog 94 #[mcVal c] w fun e w' => ∃ d : Mc, d.md = c.md ∧ e = .returned (mcVal d) ∧ Own 2 w' w.heap.size d.v d.md.next ∧ Below w.heap.size w w' := by
  obtain ⟨⟨r, s, xs⟩, ao, cap⟩ := c
  have HCALL := Lib.hid (fun W (hb : Below w.heap.size w W) => toInt_any ao xs.length cap xs W (h.rd.below hb) hn)
  clear h
  unfold mcVal
  dsimp only
  have hb3 : Below w.heap.size w (((w.alloc (.cells #[.int .i64 r, .int .i64 s, .slice ao xs.length cap] 105)).alloc (.cells #[.int .i64 0, .int .i64 0, .slice none 0 0] 81)).alloc (.cells #[.int .i64 r, .int .i64 s, .slice none 0 0] 81)) :=
    below_two (below_two ((Below.refl _ _).alloc (Nat.le_refl _) _) ((Below.refl _ _).alloc (Nat.le_refl _) _)) ((Below.refl _ _).alloc (Nat.le_refl _) _)
  have HB := Lib.hid hb3
  have HK := Lib.hid (HCALL.out _ hb3)
  clear hb3 HCALL
  go_enter Try.func94, Try.ntmps94
  go_wp2_with fail
  refine HK.out.mono ?_
  rintro e w1 hm
  obtain ⟨ao', cap', rfl, o1, r1, b1⟩ := hm.get
  have hA1 : McAt 81 w1 (w.heap.size + 1) Mc.zero := McAt.below (w := ((w.alloc (.cells #[.int .i64 r, .int .i64 s, .slice ao xs.length cap] 105)).alloc (.cells #[.int .i64 0, .int .i64 0, .slice none 0 0] 81)).alloc (.cells #[.int .i64 r, .int .i64 s, .slice none 0 0] 81))
    (by
      have h0 := McAt.new (c := Mc.zero) (T := 81) (w.alloc (.cells #[.int .i64 r, .int .i64 s, .slice ao xs.length cap] 105))
      rw [World.size_alloc] at h0
      exact h0.below ((Below.refl _ _).alloc (Nat.le_refl _) _) (by simp)) b1 (by simp)
  have hA2 : McAt 81 w1 (w.heap.size + 2) ⟨⟨r, s, []⟩, none, 0⟩ := McAt.below (w := ((w.alloc (.cells #[.int .i64 r, .int .i64 s, .slice ao xs.length cap] 105)).alloc (.cells #[.int .i64 0, .int .i64 0, .slice none 0 0] 81)).alloc (.cells #[.int .i64 r, .int .i64 s, .slice none 0 0] 81))
    (by
      have h0 := McAt.new (c := ⟨⟨r, s, []⟩, none, 0⟩) (T := 81) ((w.alloc (.cells #[.int .i64 r, .int .i64 s, .slice ao xs.length cap] 105)).alloc (.cells #[.int .i64 0, .int .i64 0, .slice none 0 0] 81))
      rw [World.size_alloc, World.size_alloc] at h0
      exact h0) b1 (by simp)
  have f2 := hA2.f 2
  have HA2 := Lib.hid (hA2.set2 xs ao' cap')
  have HA1 := Lib.hid (show McAt 81 (w1.setCell ⟨w.heap.size + 2, 2, none⟩ (.slice ao' xs.length cap')) (w.heap.size + 1) Mc.zero from (heap_setCell_other _ _ _ _ (by simp)).trans hA1)
  have HB1 := Lib.hid ((below_two HB.out b1).setCell (p := ⟨w.heap.size + 2, 2, none⟩) (show w.heap.size ≤ w.heap.size + 2 by omega) (.slice ao' xs.length cap'))
  have hsz : (((w.alloc (.cells #[.int .i64 r, .int .i64 s, .slice ao xs.length cap] 105)).alloc (.cells #[.int .i64 0, .int .i64 0, .slice none 0 0] 81)).alloc (.cells #[.int .i64 r, .int .i64 s, .slice none 0 0] 81)).heap.size = w.heap.size + 3 := by simp
  have HO := Lib.hid (o1.only (g := some (w.heap.size + 2)) (grown_set' w1 (w.heap.size + 2) 2 (.slice ao' xs.length cap')) (by
    rcases hv : (Value.slice ao' xs.length cap').ownBlock with _ | k
    · exact .inl rfl
    · refine .inr (fun e => ?_)
      have := (o1.block k hv).1
      cases e
      omega))
  obtain ⟨d0, d1, d2⟩ := hA2.in_
  clear hm o1 r1 b1 hA1 hA2 HB HK
  go_upto_region 5 with fail
  clear d0 d1 d2 f2
  generalize hW : w1.setCell ⟨w.heap.size + 2, 2, none⟩ (.slice ao' xs.length cap') = W at HA2 HA1 HB1 HO ⊢
  clear hW
  obtain ⟨d0, d1, d2⟩ := HA2.out.in_
  obtain ⟨e0, e1, e2⟩ := HA1.out.in_
  have f0 := HA1.out.f 0; have f1 := HA1.out.f 1; have f2 := HA1.out.f 2
  go_wp2_with fail
  clear d0 d1 d2 e0 e1 e2 f0 f1 f2
  change bodyPost _ _ _ _ _ (setMc W (w.heap.size + 1) 0 ⟨⟨r, s, xs⟩, ao', cap'⟩)
  have SF := HA1.out.put (d := ⟨⟨r, s, xs⟩, ao', cap'⟩)
  have BF := HB1.out.trans (below_mc (w := W) (off := 0) (show w.heap.size ≤ w.heap.size + 1 by omega) ⟨⟨r, s, xs⟩, ao', cap'⟩)
  have OF := HO.out.only (g := some (w.heap.size + 1)) (grown_trans (grown_trans (grown_set' W (w.heap.size + 1) 0 (.int .i64 r)) (grown_set' _ (w.heap.size + 1) 1 (.int .i64 s))) (grown_set' _ (w.heap.size + 1) 2 (.slice ao' xs.length cap'))) (by
    rcases hv : (Value.slice ao' xs.length cap').ownBlock with _ | k
    · exact .inl rfl
    · refine .inr (fun e => ?_)
      have := (HO.out.block k hv).1
      cases e
      omega)
  change Own _ (setMc W (w.heap.size + 1) 0 ⟨⟨r, s, xs⟩, ao', cap'⟩) _ _ _ at OF
  generalize setMc W (w.heap.size + 1) 0 ⟨⟨r, s, xs⟩, ao', cap'⟩ = wz at SF BF OF ⊢
  obtain ⟨e0, e1, e2⟩ := SF.in_
  exact bodyPost_ret (v := mcVal ⟨⟨r, s, xs⟩, ao', cap'⟩) (by simp [mcVal, results, Try.results94, go_sem, e0, e1, e2]) rfl ⟨⟨⟨r, s, xs⟩, ao', cap'⟩, rfl, rfl, OF.more (by rw [hsz]; omega), BF⟩

def fillM (ds : List Mc) (n : Nat) : List Mc := ds ++ List.replicate (n - ds.length) Mc.zero
theorem fillM_len {t : List Mc} {n : Nat} (h : t.length ≤ n) : (fillM t n).length = n := by unfold fillM; rw [List.length_append, List.length_replicate]; omega
theorem fillM_set {t : List Mc} {n : Nat} (h : t.length < n) (x : Mc) : (fillM t n).set t.length x = fillM (t ++ [x]) n := by
  unfold fillM
  rw [List.set_append_right _ _ (Nat.le_refl _), Nat.sub_self, show n - t.length = (n - (t ++ [x]).length) + 1 from by rw [List.length_append, List.length_singleton]; omega, List.replicate_succ, List.set_cons_zero]
  simp
theorem fillM_full {t : List Mc} : fillM t t.length = t := by unfold fillM; simp
theorem mds_take_succ {cs ds : List Mc} {k : Nat} {d : Mc} (hk : k < cs.length) (h : mds ds = mds (cs.take k)) (hd : d.md = (mcOf cs k).md) : mds (ds ++ [d]) = mds (cs.take (k + 1)) := by
  rw [List.take_succ_eq_append_getElem hk]
  unfold mds at h ⊢
  rw [List.map_append, List.map_append, h, List.map_singleton, List.map_singleton, hd, mcOf_get hk]
set_option maxHeartbeats 1000000 in
set_option maxRecDepth 100000 in
/-- laws.toModeInfoS: a copy in new memory. -/
theorem toModes_any (ao : Option Addr) (n cap : Nat) (cs : List Mc) (w : World) (hr : RdM w ao n cs) (hn : n ≤ 1048576) (hs : ∀ c ∈ cs, c.md.next.length ≤ 1048576) :
    Calls Try.prog 49 #[.slice ao n cap] w (MakesM 81 2 w (mds cs)) := by
  have HL := Lib.hid hr.len
  have HR := Lib.hid hr; clear hr
  have HS := Lib.hid hs; clear hs
  go_enter Try.func49, Try.ntmps49
  go_wp2_with (at_make; refine make_md (EI := 2) _ rfl _ _ rfl w.heap.size Try.underlying35 infoMd _ _ _ _ n rfl rfl rfl rfl (by omega) (Nat.le_refl _) ?_; intro w1 o1 b1)
  have o1' : OwnM 81 2 w1 w.heap.size (.slice (some ⟨w.heap.size, 0, none⟩) n n) (fillM [] n) := by unfold fillM; exact o1
  clear o1
  go_loopw [4] (fun i wr => ∃ (k : Nat) (ds : List Mc), k ≤ n ∧ i = .int .i64 k ∧ ds.length = k ∧ mds ds = mds (cs.take k) ∧ OwnM 81 2 wr w.heap.size (.slice (some ⟨w.heap.size, 0, none⟩) n n) (fillM ds n) ∧ Below w.heap.size w wr) (fun i _ => n - (intOf i).toNat)
  case atStart => exact ⟨0, [], Nat.zero_le _, rfl, rfl, rfl, o1', b1⟩
  case round =>
    clear o1' b1
    obtain ⟨k, ds, hk, rfl, hdl, hds, hown, hb⟩ := hrel
    have HDL := Lib.hid hdl; have HDS := Lib.hid hds; clear hdl hds
    by_cases hlt : k < n
    · have hkt : k < cs.length := by rw [HL.out]; exact hlt
      obtain ⟨g, off, rfl, hg, hx, hrd⟩ := HR.out.at hlt
      replace hx := hx.below hb hg
      replace hrd := hrd.below hb
      have hsm := HS.out _ (mcOf_mem hkt)
      have HDM := Lib.hid (fun (d : Mc) (h : d.md = (mcOf cs k).md) => mds_take_succ hkt HDS.out h)
      generalize mcOf cs k = c at hx hrd hsm HDM
      have HOWN := Lib.hid hown; have HB := Lib.hid hb
      have HCALL := Lib.hid (fun W (hW : Below wr.heap.size wr W) => toMode_any c W (hrd.below hW) hsm)
      unfold mcVal at HCALL
      clear hown hb hkt hrd hsm
      obtain ⟨h0, h1, h2⟩ := hx
      go_wp2_with fail
      refine (HCALL.out _ (Below.refl _ _)).mono ?_
      rintro e w2 ⟨d, hd, rfl, o2, b2⟩
      clear h0 h1 h2
      have HB2 := Lib.hid (below_two HB.out b2)
      have hlen := (fillM_len (t := ds) (n := n) (by rw [HDL.out]; omega))
      obtain ⟨hz, ⟨f0, f1, f2⟩, hst, hbst⟩ := (HOWN.out.below b2).store ne_md hlen hlt d (o2.more HB.out.size) (HOWN.out.fresh o2)
      have hset := fillM_set (t := ds) (n := n) (by rw [HDL.out]; exact hlt) d
      rw [HDL.out] at hset
      rw [hset] at hst
      have HST := Lib.hid hst; have HBST := Lib.hid (HB2.out.trans hbst); clear hst hbst b2 o2
      have HD := Lib.hid (HDM.out d hd)
      have HDN := Lib.hid (show (ds ++ [d]).length = k + 1 by rw [List.length_append, HDL.out]; rfl)
      obtain ⟨z0, z1, z2⟩ := hz
      generalize mcOf (fillM ds n) k = z at z0 z1 z2
      clear hset hlen hd
      go_wp2_with fail
      clear z0 z1 z2 f0 f1 f2
      go_roundw
      case rel => exact ⟨k + 1, ds ++ [d], by omega, by go_num, HDN.out, HD.out, HST.out, HBST.out⟩
      case measure => simp [intOf]; omega
    · have hkn : k = n := by omega
      subst hkn
      have HO := Lib.hid hown; clear hown
      go_wp2_with fail
      go_ret
      refine ⟨_, rfl, ⟨ds, ?_, ?_⟩, hb⟩
      · have h := HDS.out
        rwa [← HL.out, List.take_length] at h
      · have h := HO.out
        rw [← HDL.out] at h ⊢
        rwa [fillM_full] at h

/-! ### measured -/
def mzGo : List Md → Int → Int
  | [], m => m
  | x :: r, m => if m < x.next.length then -1 else mzGo r (m - x.next.length)
def mzS (t : List Md) (m : Int) : Int := if m < t.length then -1 else mzGo t (m - t.length)
/-- How many numbers a table's entries hold. -/
def mTot : List Md → Nat
  | [] => 0
  | x :: r => 2 + x.next.length + mTot r
theorem mzGo_drop {t : List Md} {k : Nat} (h : k < t.length) (m : Int) : mzGo (t.drop k) m = if m < (mdOf t k).next.length then -1 else mzGo (t.drop (k + 1)) (m - (mdOf t k).next.length) := by
  rw [List.drop_eq_getElem_cons h, mzGo, mdOf_get h]
theorem mzGo_tot : ∀ (t : List Md) (m : Int), 0 ≤ mzGo t m → (mTot t : Int) ≤ 2 * t.length + m ∧ ∀ x ∈ t, (x.next.length : Int) ≤ m
  | [], m, h => ⟨by simpa [mTot, mzGo] using h, fun _ h => by cases h⟩
  | x :: r, m, h => by
    rw [mzGo] at h
    split at h
    · omega
    · obtain ⟨h1, h2⟩ := mzGo_tot r (m - x.next.length) h
      refine ⟨by rw [mTot, List.length_cons]; omega, fun y hy => ?_⟩
      rcases List.mem_cons.1 hy with rfl | hy
      · omega
      · have := h2 y hy; omega
theorem mzS_ok {t : List Md} (h : 0 ≤ mzS t 1048576) : t.length ≤ 1048576 ∧ mTot t ≤ 3145728 ∧ ∀ x ∈ t, x.next.length ≤ 1048576 := by
  unfold mzS at h
  split at h
  · omega
  · obtain ⟨h1, h2⟩ := mzGo_tot _ _ h
    exact ⟨by omega, by omega, fun x hx => by have := h2 x hx; omega⟩
theorem mzGo_neg : ∀ (t : List Md) (m : Int), 0 ≤ m → mzGo t m = -1 ∨ (0 ≤ mzGo t m ∧ mzGo t m ≤ m)
  | [], m, h => .inr ⟨h, Int.le_refl _⟩
  | x :: r, m, h => by
    rw [mzGo]
    split
    · exact .inl rfl
    · rcases mzGo_neg r (m - x.next.length) (by omega) with h1 | h1
      · exact .inl h1
      · exact .inr ⟨h1.1, by omega⟩
theorem mzS_neg (t : List Md) : mzS t 1048576 = -1 ∨ (0 ≤ mzS t 1048576 ∧ mzS t 1048576 ≤ 1048576) := by
  unfold mzS
  split
  · exact .inl rfl
  · rcases mzGo_neg t (1048576 - t.length) (by omega) with h1 | h1
    · exact .inl h1
    · exact .inr ⟨h1.1, by omega⟩
theorem szInts_any (ao : Option Addr) (n cap : Nat) (m : Int) (w : World) (h0 : 0 ≤ m) (h1 : m ≤ 1048576) (hn : n ≤ 9223372036854775807) :
    Calls Try.prog 122 #[.slice ao n cap, .int .i64 m] w fun e w' => e = .returned (.int .i64 (if m < n then -1 else m - n)) ∧ w = w' := by
  have hw : IntKind.i64.wrap (m - (n : Int)) = m - (n : Int) := by rw [IntKind.wrap_i64]; omega
  by_cases hc : m < n
  · have h2 : m - (n : Int) < 0 := by omega
    rw [if_pos hc]
    go_enter Try.func122, Try.ntmps122
    go_wp2
    go_ret
    exact ⟨rfl, rfl⟩
  · have h2 : ¬ m - (n : Int) < 0 := by omega
    rw [if_neg hc]
    go_enter Try.func122, Try.ntmps122
    go_wp2
    go_ret
    exact ⟨rfl, rfl⟩
/-- laws.szModeInfo. -/
theorem szMode_any (c : Mc) (m : Int) (w : World) (h0 : 0 ≤ m) (h1 : m ≤ 1048576) (hn : c.md.next.length ≤ 9223372036854775807) :
    Calls Try.prog 93 #[mcVal c, .int .i64 m] w fun e w' => e = .returned (.int .i64 (if m < c.md.next.length then -1 else m - c.md.next.length)) ∧ Below w.heap.size w w' := by
  have HCALL := Lib.hid (fun W => szInts_any c.ao c.md.next.length c.cap m W h0 h1 hn)
  unfold mcVal
  obtain ⟨v, hv⟩ : ∃ v, v = (if m < (c.md.next.length : Int) then (-1 : Int) else m - (c.md.next.length : Int)) := ⟨_, rfl⟩
  rw [← hv] at HCALL ⊢
  have hvb : v = -1 ∨ 0 ≤ v := by rw [hv]; split <;> omega
  clear hv hn
  have HB := Lib.hid ((Below.refl w.heap.size w).alloc (Nat.le_refl _) (.cells #[.int .i64 c.md.rounds, .int .i64 c.md.slots, .slice c.ao c.md.next.length c.cap] 105))
  rcases hvb with rfl | hv0
  · go_enter Try.func93, Try.ntmps93
    go_wp2_with fail
    refine (HCALL.out _).mono ?_
    rintro e w' ⟨rfl, rfl⟩
    go_wp2_with fail
    go_ret
    exact ⟨rfl, HB.out⟩
  · have hv1 : ¬ v < 0 := by omega
    go_enter Try.func93, Try.ntmps93
    go_wp2_with fail
    refine (HCALL.out _).mono ?_
    rintro e w' ⟨rfl, rfl⟩
    go_wp2_with fail
    go_ret
    exact ⟨rfl, HB.out⟩
set_option maxHeartbeats 1000000 in
set_option maxRecDepth 100000 in
/-- laws.szModeInfoS. -/
theorem szModes_any (ao : Option Addr) (n cap : Nat) (cs : List Mc) (w : World) (hr : RdM w ao n cs) (hn : n ≤ 9223372036854775807) :
    Calls Try.prog 48 #[.slice ao n cap, .int .i64 1048576] w fun e w' => e = .returned (.int .i64 (mzS (mds cs) 1048576)) ∧ Below w.heap.size w w' := by
  have HL := Lib.hid ((mds_len cs).trans hr.len)
  have HR := Lib.hid hr; clear hr
  by_cases hbig : (1048576 : Int) < n
  · have HF := Lib.hid (show mzS (mds cs) 1048576 = -1 from by unfold mzS; rw [if_pos (by rw [HL.out]; exact hbig)])
    have hq : (1048576 : Int) - n < 0 := by omega
    have hw : IntKind.i64.wrap ((1048576 : Int) - n) = 1048576 - n := by rw [IntKind.wrap_i64]; omega
    go_enter Try.func48, Try.ntmps48
    go_wp2_with fail
    go_ret
    rw [HF.out]
    exact ⟨rfl, Below.refl _ _⟩
  have hq : ¬ (1048576 : Int) - n < 0 := by omega
  have hw : IntKind.i64.wrap ((1048576 : Int) - n) = 1048576 - n := by rw [IntKind.wrap_i64]; omega
  have HF := Lib.hid (show mzS (mds cs) 1048576 = mzGo ((mds cs).drop 0) (1048576 - n) from by unfold mzS; rw [if_neg (by rw [HL.out]; exact hbig), HL.out]; rfl)
  have hm0 : 0 ≤ (1048576 : Int) - n := by omega
  go_enter Try.func48, Try.ntmps48
  go_wp2_with fail
  clear hw
  go_loopw [1, 5] (fun l i wr => ∃ (k : Nat) (m : Int), k ≤ n ∧ i = .int .i64 k ∧ l = .int .i64 m ∧ 0 ≤ m ∧ m ≤ 1048576 ∧ Hid (mzS (mds cs) 1048576 = mzGo ((mds cs).drop k) m) ∧ Below w.heap.size w wr) (fun _ i _ => n - (intOf i).toNat)
  case atStart => exact ⟨0, 1048576 - n, Nat.zero_le _, rfl, rfl, by omega, by omega, HF.out, Below.refl _ _⟩
  case round =>
    clear hq hm0 HF
    obtain ⟨k, m, hk, rfl, rfl, hm0, hm1, hsz, hb⟩ := hrel
    by_cases hlt : k < n
    · have hkt : k < (mds cs).length := by rw [HL.out]; exact hlt
      obtain ⟨g, off, rfl, hg, hx, hrd⟩ := HR.out.at hlt
      replace hx := hx.below hb hg
      have hss : (mcOf cs k).md.next.length ≤ 9223372036854775807 := by have := hrd.le; have := hrd.cap; omega
      have hdr := mzGo_drop hkt m
      rw [mdOf_mds] at hdr
      clear hrd
      generalize mcOf cs k = x at hx hss hdr
      rw [← hsz.out] at hdr
      have hcall := fun W => szMode_any x m W hm0 hm1 hss
      unfold mcVal at hcall
      have HCALL := Lib.hid hcall; have HDR := Lib.hid hdr; have HB := Lib.hid hb
      clear hcall hdr hkt hb hsz
      obtain ⟨h0, h1, h2⟩ := hx
      by_cases hc : m < x.md.next.length
      · have hif : (if m < (x.md.next.length : Int) then (-1 : Int) else m - (x.md.next.length : Int)) = -1 := if_pos hc
        have hF2 := HDR.out
        rw [if_pos hc] at hF2
        have HF2 := Lib.hid hF2; clear hF2
        go_wp2_with fail
        refine (HCALL.out _).mono ?_
        rintro e w2 ⟨rfl, b2⟩
        rw [hif]
        clear h0 h1 h2
        go_wp2_with fail
        go_ret
        rw [HF2.out]
        exact ⟨rfl, below_two HB.out b2⟩
      · have hif : (if m < (x.md.next.length : Int) then (-1 : Int) else m - (x.md.next.length : Int)) = m - (x.md.next.length : Int) := if_neg hc
        have hF2 := HDR.out
        rw [if_neg hc] at hF2
        have HF2 := Lib.hid hF2; clear hF2
        go_wp2_with fail
        refine (HCALL.out _).mono ?_
        rintro e w2 ⟨rfl, b2⟩
        rw [hif]
        clear h0 h1 h2 hif
        obtain ⟨m2, hm2⟩ : ∃ m2, m2 = m - (x.md.next.length : Int) := ⟨_, rfl⟩
        rw [← hm2] at HF2 ⊢
        have h20 : 0 ≤ m2 := by omega
        have h21 : m2 ≤ 1048576 := by omega
        have h22 : ¬ m2 < 0 := by omega
        clear hm2 hc
        go_wp2_with fail
        go_roundw
        case rel => exact ⟨k + 1, m2, by omega, by go_num, rfl, h20, h21, HF2.out, below_two HB.out b2⟩
        case measure => simp [intOf]; omega
    · have hkn : k = n := by omega
      subst hkn
      have HF2 := Lib.hid (show mzS (mds cs) 1048576 = m from by rw [hsz.out, List.drop_of_length_le (by rw [HL.out]; exact Nat.le_refl _)]; rfl)
      have HB := Lib.hid hb; clear hb
      go_wp2_with fail
      go_ret
      rw [HF2.out]
      exact ⟨rfl, HB.out⟩

/-! ### compared -/
set_option maxHeartbeats 1000000 in
/-- laws.eqModeInfo of one entry read twice. -/
theorem eqMode_yes (c d : Mc) (w : World) (hc : McRd w c) (hd : McRd w d) (e : c.md = d.md) :
    Calls Try.prog 95 #[mcVal c, mcVal d] w fun e w' => e = .returned (.bool true) ∧ Below w.heap.size w w' := by
  obtain ⟨⟨r, s, xs⟩, ao, cap⟩ := c
  obtain ⟨⟨r', s', xs'⟩, bo, cap'⟩ := d
  cases e
  have HCALL := Lib.hid (fun W (hb : Below w.heap.size w W) => eq_yes ao bo xs.length xs.length cap cap' xs W (hc.rd.below hb) (hd.rd.below hb) (by have := hc.le; have := hc.cap; dsimp only at *; omega))
  clear hc hd
  unfold mcVal
  dsimp only
  have hb : Below w.heap.size w ((w.alloc (.cells #[.int .i64 r, .int .i64 s, .slice ao xs.length cap] 81)).alloc (.cells #[.int .i64 r, .int .i64 s, .slice bo xs.length cap'] 81)) :=
    below_two ((Below.refl _ _).alloc (Nat.le_refl _) _) ((Below.refl _ _).alloc (Nat.le_refl _) _)
  have HK := Lib.hid (HCALL.out _ hb)
  have HB := Lib.hid hb
  clear hb HCALL
  have n0 : (r != r) = false := by simp
  have n1 : (s != s) = false := by simp
  go_enter Try.func95, Try.ntmps95
  go_wp2_with fail
  refine HK.out.mono ?_
  rintro e w1 ⟨rfl, b1⟩
  go_wp2_with fail
  go_ret
  exact ⟨rfl, below_two HB.out b1⟩
set_option maxHeartbeats 1000000 in
set_option maxRecDepth 100000 in
set_option linter.unusedSimpArgs false in
/-- laws.eqModeInfoS of one table read twice. -/
theorem eqModes_yes (ao bo : Option Addr) (n c d : Nat) (cs ds : List Mc) (w : World) (hx : RdM w ao n cs) (hy : RdM w bo n ds) (he : mds cs = mds ds) (hn : n ≤ 9223372036854775807) :
    Calls Try.prog 50 #[.slice ao n c, .slice bo n d] w fun e w' => e = .returned (.bool true) ∧ Below w.heap.size w w' := by
  have HX := Lib.hid hx; have HY := Lib.hid hy; have HE := Lib.hid he; clear hx hy he
  have hne : ((n : Int) != (n : Int)) = false := by simp
  go_enter Try.func50, Try.ntmps50
  go_wp2_with fail
  clear hne
  go_loopw [5] (fun i wr => ∃ k : Nat, k ≤ n ∧ i = .int .i64 k ∧ Below w.heap.size w wr) (fun i _ => n - (intOf i).toNat)
  case atStart => exact ⟨0, Nat.zero_le _, rfl, Below.refl _ _⟩
  case round =>
    obtain ⟨k, hk, rfl, hb⟩ := hrel
    by_cases hlt : k < n
    · obtain ⟨g, off, rfl, hg, hx, hxr⟩ := HX.out.at hlt
      obtain ⟨g', off', rfl, hg', hy, hyr⟩ := HY.out.at hlt
      replace hx := hx.below hb hg
      replace hy := hy.below hb hg'
      replace hxr := hxr.below hb
      replace hyr := hyr.below hb
      have hmd : (mcOf cs k).md = (mcOf ds k).md := by rw [← mdOf_mds, ← mdOf_mds, HE.out]
      have HB := Lib.hid hb; clear hb
      generalize mcOf cs k = x at hx hxr hmd
      generalize mcOf ds k = y at hy hyr hmd
      have HGX := Lib.hid hg; have HGY := Lib.hid hg'
      have HXX := Lib.hid hx; have HYY := Lib.hid hy
      have hcall := fun W (hW : Below wr.heap.size wr W) => eqMode_yes x y W (hxr.below hW) (hyr.below hW) hmd
      unfold mcVal at hcall
      have HCALL := Lib.hid hcall
      clear hcall hx hy hg hg' hxr hyr hmd
      obtain ⟨⟨x0, x1, xs⟩, xo, xc⟩ := x
      obtain ⟨⟨y0, y1, ys⟩, yo, yc⟩ := y
      dsimp only at *
      go_upto_region 6 with fail
      refine wp_region_held_drew (S := fun w' => w'.cell? ⟨g, off + k * 3, none⟩ = some (.int .i64 x0) ∧ w'.cell? ⟨g, off + k * 3 + 1, none⟩ = some (.int .i64 x1) ∧ w'.cell? ⟨g, off + k * 3 + 2, none⟩ = some (.slice xo xs.length xc) ∧ w'.cell? ⟨g', off' + k * 3, none⟩ = some (.int .i64 y0) ∧ w'.cell? ⟨g', off' + k * 3 + 1, none⟩ = some (.int .i64 y1) ∧ w'.cell? ⟨g', off' + k * 3 + 2, none⟩ = some (.slice yo ys.length yc)) (by kernel_rfl) (⟨HXX.out.c0, HXX.out.c1, HXX.out.c2, HYY.out.c0, HYY.out.c1, HYY.out.c2⟩) (fun hHeld => ?_)
      refine wpAnyH_take (i := 0) (v := ?_) rfl (by kernel_rfl) (by kernel_rfl) (by kernel_rfl) (fun _ _ _ h => h) (Or.inl ⟨by rfl, ?_⟩) (by assumption) ?_
      rotate_left
      · (intro w hSw; (try dsimp only at hSw); go_simp; (try with_reducible rfl))
      try simp only [List.getElem_toArray, List.getElem_cons_succ, List.getElem_cons_zero, Act.put, List.setIfInBounds_toArray, List.set_cons_zero, List.set_cons_succ]
      refine wpAnyH_take (i := 1) (v := ?_) rfl (by kernel_rfl) (by kernel_rfl) (by kernel_rfl) (fun _ _ _ h => h) (Or.inl ⟨by rfl, ?_⟩) (by assumption) ?_
      rotate_left
      · (intro w hSw; (try dsimp only at hSw); go_simp; (try with_reducible rfl))
      try simp only [List.getElem_toArray, List.getElem_cons_succ, List.getElem_cons_zero, Act.put, List.setIfInBounds_toArray, List.set_cons_zero, List.set_cons_succ]
      refine wpAnyH_take (i := 2) (v := ?_) rfl (by kernel_rfl) (by kernel_rfl) (by kernel_rfl) (fun _ _ _ h => h) (Or.inl ⟨by rfl, ?_⟩) (by assumption) ?_
      rotate_left
      · (intro w hSw; (try dsimp only at hSw); go_simp; (try with_reducible rfl))
      try simp only [List.getElem_toArray, List.getElem_cons_succ, List.getElem_cons_zero, Act.put, List.setIfInBounds_toArray, List.set_cons_zero, List.set_cons_succ]
      refine wpAnyH_take (i := 3) (v := ?_) rfl (by kernel_rfl) (by kernel_rfl) (by kernel_rfl) (fun _ _ _ h => h) (Or.inl ⟨by rfl, ?_⟩) (by assumption) ?_
      rotate_left
      · (intro w hSw; (try dsimp only at hSw); go_simp; (try with_reducible rfl))
      try simp only [List.getElem_toArray, List.getElem_cons_succ, List.getElem_cons_zero, Act.put, List.setIfInBounds_toArray, List.set_cons_zero, List.set_cons_succ]
      refine wpAnyH_take (i := 4) (v := ?_) rfl (by kernel_rfl) (by kernel_rfl) (by kernel_rfl) (fun _ _ _ h => h) (Or.inl ⟨by rfl, ?_⟩) (by assumption) ?_
      rotate_left
      · (intro w hSw; (try dsimp only at hSw); go_simp; (try with_reducible rfl))
      try simp only [List.getElem_toArray, List.getElem_cons_succ, List.getElem_cons_zero, Act.put, List.setIfInBounds_toArray, List.set_cons_zero, List.set_cons_succ]
      refine wpAnyH_take (i := 5) (v := ?_) rfl (by kernel_rfl) (by kernel_rfl) (by kernel_rfl) (fun _ _ _ h => h) (Or.inl ⟨by rfl, ?_⟩) (by assumption) ?_
      rotate_left
      · (intro w hSw; (try dsimp only at hSw); go_simp; (try with_reducible rfl))
      try simp only [List.getElem_toArray, List.getElem_cons_succ, List.getElem_cons_zero, Act.put, List.setIfInBounds_toArray, List.set_cons_zero, List.set_cons_succ]
      refine wpAnyH_take (i := 6) (v := ?_) rfl (by kernel_rfl) (by kernel_rfl) (by kernel_rfl) (fun _ _ _ h => h) (Or.inl ⟨by rfl, ?_⟩) (by assumption) ?_
      rotate_left
      · (intro w hSw; (try dsimp only at hSw); go_simp; (try with_reducible rfl))
      try simp only [List.getElem_toArray, List.getElem_cons_succ, List.getElem_cons_zero, Act.put, List.setIfInBounds_toArray, List.set_cons_zero, List.set_cons_succ]
      refine wpAnyH_take (i := 7) (v := ?_) rfl (by kernel_rfl) (by kernel_rfl) (by kernel_rfl) (fun _ _ _ h => h) (Or.inl ⟨by rfl, ?_⟩) (by assumption) ?_
      rotate_left
      · (intro w hSw; (try dsimp only at hSw); go_simp; (try with_reducible rfl))
      try simp only [List.getElem_toArray, List.getElem_cons_succ, List.getElem_cons_zero, Act.put, List.setIfInBounds_toArray, List.set_cons_zero, List.set_cons_succ]
      refine wpAnyH_ready (rs := [8]) (by kernel_rfl) (by simp) (AllReadyH.cons rfl (fun K hK => ?_) AllReadyH.nil)
      go_simp
      refine (HCALL.out _ (Below.drew (Below.refl wr.heap.size wr))).mono ?_
      rintro e w2 ⟨rfl, b2⟩
      replace b2 := below_two (Below.drew (Below.refl wr.heap.size wr)) b2
      have HX2 := Lib.hid (HXX.out.below b2 (Nat.lt_of_lt_of_le HGX.out HB.out.size))
      have HY2 := Lib.hid (HYY.out.below b2 (Nat.lt_of_lt_of_le HGY.out HB.out.size))
      have HB2 := Lib.hid (below_two HB.out b2)
      clear b2
      go_wp2_with fail
      refine hK.out _ _ ?_ (fun hHeld => ?_)
      · exact ⟨HX2.out.c0, HX2.out.c1, HX2.out.c2, HY2.out.c0, HY2.out.c1, HY2.out.c2⟩
      clear hK K
      try simp only [List.getElem_toArray, List.getElem_cons_succ, List.getElem_cons_zero, Act.put, List.setIfInBounds_toArray, List.set_cons_zero, List.set_cons_succ]
      refine wpAnyH_take (i := 9) (v := ?_) rfl (by kernel_rfl) (by kernel_rfl) (by kernel_rfl) (fun _ _ _ h => h) (Or.inl ⟨by rfl, ?_⟩) (by assumption) ?_
      rotate_left
      · (intro w hSw; (try dsimp only at hSw); go_simp; (try with_reducible rfl))
      try simp only [List.getElem_toArray, List.getElem_cons_succ, List.getElem_cons_zero, Act.put, List.setIfInBounds_toArray, List.set_cons_zero, List.set_cons_succ]
      refine wpAnyH_done (by kernel_rfl) ?_ _
      go_wp2_with fail
      go_roundw
      case rel => exact ⟨k + 1, by omega, by go_num, HB2.out⟩
      case measure => simp [intOf]; omega
    · have hkn : k = n := by omega
      subst hkn
      have HB := Lib.hid hb; clear hb
      go_wp2_with fail
      go_ret
      exact ⟨rfl, HB.out⟩
end Go.Proofs.Ytfmedckompdjgaa
