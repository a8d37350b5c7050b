/-
  Contracts of the program's, the model's and the laws' functions, and plain mathematics, on which a proof of this claim stands (part M).
-/
import Derived.Deep.DeepCutAuto
import Derived.Deep.RegionHeld3
import Derived.BigQuiet
import Derived.Test.YthihjhidjnadaaaGreatP26A
namespace Go.Proofs.YthihjhidjnadaaaGreat
section
open Go.RowKit
theorem infoMd : (Tryz.prog.info? 99).map (fun i => (i.zero, i.size, i.bytes)) = some (some (mcVal Mc.zero), 3, 40) := by kernel_rfl
theorem ne_md : 99 ≠ 2 := by decide
set_option maxHeartbeats 1000000 in
set_option maxRecDepth 100000 in
theorem toMode_any (c : Mc) (w : World) (h : McRd w c) (hn : c.md.next.length ≤ 1048576) :
    Calls Tryz.prog 154 #[mcVal c] w fun e w' => ∃ d : Mc, d.md = c.md ∧ e = .returned (mcVal d) ∧ Own 2 w' w.heap.size d.v d.md.next ∧ Below w.heap.size w w' := by
  obtain ⟨⟨r, s, xs⟩, ao, cap⟩ := c
  have HCALL := Lib.hid (fun W (hb : Below w.heap.size w W) => toInt_any ao xs.length cap xs W (h.rd.below hb) hn)
  clear h
  unfold mcVal
  dsimp only
  have hb3 : Below w.heap.size w (((w.alloc (.cells #[.int .i64 r, .int .i64 s, .slice ao xs.length cap] 192)).alloc (.cells #[.int .i64 0, .int .i64 0, .slice none 0 0] 99)).alloc (.cells #[.int .i64 r, .int .i64 s, .slice none 0 0] 99)) :=
    below_two (below_two ((Below.refl _ _).alloc (Nat.le_refl _) _) ((Below.refl _ _).alloc (Nat.le_refl _) _)) ((Below.refl _ _).alloc (Nat.le_refl _) _)
  have HB := Lib.hid hb3
  have HK := Lib.hid (HCALL.out _ hb3)
  clear hb3 HCALL
  go_enter Tryz.func154, Tryz.ntmps154
  go_wp2_with fail
  refine HK.out.mono ?_
  rintro e w1 hm
  obtain ⟨ao', cap', rfl, o1, r1, b1⟩ := hm.get
  have hA1 : McAt 99 w1 (w.heap.size + 1) Mc.zero := McAt.below (w := ((w.alloc (.cells #[.int .i64 r, .int .i64 s, .slice ao xs.length cap] 192)).alloc (.cells #[.int .i64 0, .int .i64 0, .slice none 0 0] 99)).alloc (.cells #[.int .i64 r, .int .i64 s, .slice none 0 0] 99))
    (by
      have h0 := McAt.new (c := Mc.zero) (T := 99) (w.alloc (.cells #[.int .i64 r, .int .i64 s, .slice ao xs.length cap] 192))
      rw [World.size_alloc] at h0
      exact h0.below ((Below.refl _ _).alloc (Nat.le_refl _) _) (by simp)) b1 (by simp)
  have hA2 : McAt 99 w1 (w.heap.size + 2) ⟨⟨r, s, []⟩, none, 0⟩ := McAt.below (w := ((w.alloc (.cells #[.int .i64 r, .int .i64 s, .slice ao xs.length cap] 192)).alloc (.cells #[.int .i64 0, .int .i64 0, .slice none 0 0] 99)).alloc (.cells #[.int .i64 r, .int .i64 s, .slice none 0 0] 99))
    (by
      have h0 := McAt.new (c := ⟨⟨r, s, []⟩, none, 0⟩) (T := 99) ((w.alloc (.cells #[.int .i64 r, .int .i64 s, .slice ao xs.length cap] 192)).alloc (.cells #[.int .i64 0, .int .i64 0, .slice none 0 0] 99))
      rw [World.size_alloc, World.size_alloc] at h0
      exact h0) b1 (by simp)
  have f2 := hA2.f 2
  have HA2 := Lib.hid (hA2.set2 xs ao' cap')
  have HA1 := Lib.hid (show McAt 99 (w1.setCell ⟨w.heap.size + 2, 2, none⟩ (.slice ao' xs.length cap')) (w.heap.size + 1) Mc.zero from (heap_setCell_other _ _ _ _ (by simp)).trans hA1)
  have HB1 := Lib.hid ((below_two HB.out b1).setCell (p := ⟨w.heap.size + 2, 2, none⟩) (show w.heap.size ≤ w.heap.size + 2 by omega) (.slice ao' xs.length cap'))
  have hsz : (((w.alloc (.cells #[.int .i64 r, .int .i64 s, .slice ao xs.length cap] 192)).alloc (.cells #[.int .i64 0, .int .i64 0, .slice none 0 0] 99)).alloc (.cells #[.int .i64 r, .int .i64 s, .slice none 0 0] 99)).heap.size = w.heap.size + 3 := by simp
  have HO := Lib.hid (o1.only (g := some (w.heap.size + 2)) (grown_set' w1 (w.heap.size + 2) 2 (.slice ao' xs.length cap')) (by
    rcases hv : (Value.slice ao' xs.length cap').ownBlock with _ | k
    · exact .inl rfl
    · refine .inr (fun e => ?_)
      have := (o1.block k hv).1
      cases e
      omega))
  obtain ⟨d0, d1, d2⟩ := hA2.in_
  clear hm o1 r1 b1 hA1 hA2 HB HK
  go_upto_region 5 with fail
  clear d0 d1 d2 f2
  generalize hW : w1.setCell ⟨w.heap.size + 2, 2, none⟩ (.slice ao' xs.length cap') = W at HA2 HA1 HB1 HO ⊢
  clear hW
  obtain ⟨d0, d1, d2⟩ := HA2.out.in_
  obtain ⟨e0, e1, e2⟩ := HA1.out.in_
  have f0 := HA1.out.f 0; have f1 := HA1.out.f 1; have f2 := HA1.out.f 2
  go_wp2_with fail
  clear d0 d1 d2 e0 e1 e2 f0 f1 f2
  change bodyPost _ _ _ _ _ (setMc W (w.heap.size + 1) 0 ⟨⟨r, s, xs⟩, ao', cap'⟩)
  have SF := HA1.out.put (d := ⟨⟨r, s, xs⟩, ao', cap'⟩)
  have BF := HB1.out.trans (below_mc (w := W) (off := 0) (show w.heap.size ≤ w.heap.size + 1 by omega) ⟨⟨r, s, xs⟩, ao', cap'⟩)
  have OF := HO.out.only (g := some (w.heap.size + 1)) (grown_trans (grown_trans (grown_set' W (w.heap.size + 1) 0 (.int .i64 r)) (grown_set' _ (w.heap.size + 1) 1 (.int .i64 s))) (grown_set' _ (w.heap.size + 1) 2 (.slice ao' xs.length cap'))) (by
    rcases hv : (Value.slice ao' xs.length cap').ownBlock with _ | k
    · exact .inl rfl
    · refine .inr (fun e => ?_)
      have := (HO.out.block k hv).1
      cases e
      omega)
  change Own _ (setMc W (w.heap.size + 1) 0 ⟨⟨r, s, xs⟩, ao', cap'⟩) _ _ _ at OF
  generalize setMc W (w.heap.size + 1) 0 ⟨⟨r, s, xs⟩, ao', cap'⟩ = wz at SF BF OF ⊢
  obtain ⟨e0, e1, e2⟩ := SF.in_
  exact bodyPost_ret (v := mcVal ⟨⟨r, s, xs⟩, ao', cap'⟩) (by simp [mcVal, results, Tryz.results154, go_sem, e0, e1, e2]) rfl ⟨⟨⟨r, s, xs⟩, ao', cap'⟩, rfl, rfl, OF.more (by rw [hsz]; omega), BF⟩
def fillM (ds : List Mc) (n : Nat) : List Mc := ds ++ List.replicate (n - ds.length) Mc.zero
theorem fillM_len {t : List Mc} {n : Nat} (h : t.length ≤ n) : (fillM t n).length = n := by unfold fillM; rw [List.length_append, List.length_replicate]; omega
theorem fillM_set {t : List Mc} {n : Nat} (h : t.length < n) (x : Mc) : (fillM t n).set t.length x = fillM (t ++ [x]) n := by
  unfold fillM
  rw [List.set_append_right _ _ (Nat.le_refl _), Nat.sub_self, show n - t.length = (n - (t ++ [x]).length) + 1 from by rw [List.length_append, List.length_singleton]; omega, List.replicate_succ, List.set_cons_zero]
  simp
theorem fillM_full {t : List Mc} : fillM t t.length = t := by unfold fillM; simp
theorem mds_take_succ {cs ds : List Mc} {k : Nat} {d : Mc} (hk : k < cs.length) (h : mds ds = mds (cs.take k)) (hd : d.md = (mcOf cs k).md) : mds (ds ++ [d]) = mds (cs.take (k + 1)) := by
  rw [List.take_succ_eq_append_getElem hk]
  unfold mds at h ⊢
  rw [List.map_append, List.map_append, h, List.map_singleton, List.map_singleton, hd, mcOf_get hk]
set_option maxHeartbeats 1000000 in
set_option maxRecDepth 100000 in
theorem toModes_any (ao : Option Addr) (n cap : Nat) (cs : List Mc) (w : World) (hr : RdM w ao n cs) (hn : n ≤ 1048576) (hs : ∀ c ∈ cs, c.md.next.length ≤ 1048576) :
    Calls Tryz.prog 114 #[.slice ao n cap] w (MakesM 99 2 w (mds cs)) := by
  have HL := Lib.hid hr.len
  have HR := Lib.hid hr; clear hr
  have HS := Lib.hid hs; clear hs
  go_enter Tryz.func114, Tryz.ntmps114
  go_wp2_with (at_make; refine make_md (EI := 2) _ rfl _ _ rfl w.heap.size Tryz.underlying25 infoMd _ _ _ _ n rfl rfl rfl rfl (by omega) (Nat.le_refl _) ?_; intro w1 o1 b1)
  have o1' : OwnM 99 2 w1 w.heap.size (.slice (some ⟨w.heap.size, 0, none⟩) n n) (fillM [] n) := by unfold fillM; exact o1
  clear o1
  go_loopw [4] (fun i wr => ∃ (k : Nat) (ds : List Mc), k ≤ n ∧ i = .int .i64 k ∧ ds.length = k ∧ mds ds = mds (cs.take k) ∧ OwnM 99 2 wr w.heap.size (.slice (some ⟨w.heap.size, 0, none⟩) n n) (fillM ds n) ∧ Below w.heap.size w wr) (fun i _ => n - (intOf i).toNat)
  case atStart => exact ⟨0, [], Nat.zero_le _, rfl, rfl, rfl, o1', b1⟩
  case round =>
    clear o1' b1
    obtain ⟨k, ds, hk, rfl, hdl, hds, hown, hb⟩ := hrel
    have HDL := Lib.hid hdl; have HDS := Lib.hid hds; clear hdl hds
    by_cases hlt : k < n
    · have hkt : k < cs.length := by rw [HL.out]; exact hlt
      obtain ⟨g, off, rfl, hg, hx, hrd⟩ := HR.out.at hlt
      replace hx := hx.below hb hg
      replace hrd := hrd.below hb
      have hsm := HS.out _ (mcOf_mem hkt)
      have HDM := Lib.hid (fun (d : Mc) (h : d.md = (mcOf cs k).md) => mds_take_succ hkt HDS.out h)
      generalize mcOf cs k = c at hx hrd hsm HDM
      have HOWN := Lib.hid hown; have HB := Lib.hid hb
      have HCALL := Lib.hid (fun W (hW : Below wr.heap.size wr W) => toMode_any c W (hrd.below hW) hsm)
      unfold mcVal at HCALL
      clear hown hb hkt hrd hsm
      obtain ⟨h0, h1, h2⟩ := hx
      go_wp2_with fail
      refine (HCALL.out _ (Below.refl _ _)).mono ?_
      rintro e w2 ⟨d, hd, rfl, o2, b2⟩
      clear h0 h1 h2
      have HB2 := Lib.hid (below_two HB.out b2)
      have hlen := (fillM_len (t := ds) (n := n) (by rw [HDL.out]; omega))
      obtain ⟨hz, ⟨f0, f1, f2⟩, hst, hbst⟩ := (HOWN.out.below b2).store ne_md hlen hlt d (o2.more HB.out.size) (HOWN.out.fresh o2)
      have hset := fillM_set (t := ds) (n := n) (by rw [HDL.out]; exact hlt) d
      rw [HDL.out] at hset
      rw [hset] at hst
      have HST := Lib.hid hst; have HBST := Lib.hid (HB2.out.trans hbst); clear hst hbst b2 o2
      have HD := Lib.hid (HDM.out d hd)
      have HDN := Lib.hid (show (ds ++ [d]).length = k + 1 by rw [List.length_append, HDL.out]; rfl)
      obtain ⟨z0, z1, z2⟩ := hz
      generalize mcOf (fillM ds n) k = z at z0 z1 z2
      clear hset hlen hd
      go_wp2_with fail
      clear z0 z1 z2 f0 f1 f2
      go_roundw
      case rel => exact ⟨k + 1, ds ++ [d], by omega, by go_num, HDN.out, HD.out, HST.out, HBST.out⟩
      case measure => simp [intOf]; omega
    · have hkn : k = n := by omega
      subst hkn
      have HO := Lib.hid hown; clear hown
      go_wp2_with fail
      go_ret
      refine ⟨_, rfl, ⟨ds, ?_, ?_⟩, hb⟩
      · have h := HDS.out
        rwa [← HL.out, List.take_length] at h
      · have h := HO.out
        rw [← HDL.out] at h ⊢
        rwa [fillM_full] at h
def mzGo : List Md → Int → Int
  | [], m => m
  | x :: r, m => if m < x.next.length then -1 else mzGo r (m - x.next.length)
def mzS (t : List Md) (m : Int) : Int := if m < t.length then -1 else mzGo t (m - t.length)
def mTot : List Md → Nat
  | [] => 0
  | x :: r => 2 + x.next.length + mTot r
theorem mzGo_drop {t : List Md} {k : Nat} (h : k < t.length) (m : Int) : mzGo (t.drop k) m = if m < (mdOf t k).next.length then -1 else mzGo (t.drop (k + 1)) (m - (mdOf t k).next.length) := by
  rw [List.drop_eq_getElem_cons h, mzGo, mdOf_get h]
theorem mzGo_tot : ∀ (t : List Md) (m : Int), 0 ≤ mzGo t m → (mTot t : Int) ≤ 2 * t.length + m ∧ ∀ x ∈ t, (x.next.length : Int) ≤ m
  | [], m, h => ⟨by simpa [mTot, mzGo] using h, fun _ h => by cases h⟩
  | x :: r, m, h => by
    rw [mzGo] at h
    split at h
    · omega
    · obtain ⟨h1, h2⟩ := mzGo_tot r (m - x.next.length) h
      refine ⟨by rw [mTot, List.length_cons]; omega, fun y hy => ?_⟩
      rcases List.mem_cons.1 hy with rfl | hy
      · omega
      · have := h2 y hy; omega
theorem mzGo_neg : ∀ (t : List Md) (m : Int), 0 ≤ m → mzGo t m = -1 ∨ (0 ≤ mzGo t m ∧ mzGo t m ≤ m)
  | [], m, h => .inr ⟨h, Int.le_refl _⟩
  | x :: r, m, h => by
    rw [mzGo]
    split
    · exact .inl rfl
    · rcases mzGo_neg r (m - x.next.length) (by omega) with h1 | h1
      · exact .inl h1
      · exact .inr ⟨h1.1, by omega⟩
theorem szInts_any (ao : Option Addr) (n cap : Nat) (m : Int) (w : World) (h0 : 0 ≤ m) (h1 : m ≤ 1048576) (hn : n ≤ 9223372036854775807) :
    Calls Tryz.prog 186 #[.slice ao n cap, .int .i64 m] w fun e w' => e = .returned (.int .i64 (if m < n then -1 else m - n)) ∧ w = w' := by
  have hw : IntKind.i64.wrap (m - (n : Int)) = m - (n : Int) := by rw [IntKind.wrap_i64]; omega
  by_cases hc : m < n
  · have h2 : m - (n : Int) < 0 := by omega
    rw [if_pos hc]
    go_enter Tryz.func186, Tryz.ntmps186
    go_wp2
    go_ret
    exact ⟨rfl, rfl⟩
  · have h2 : ¬ m - (n : Int) < 0 := by omega
    rw [if_neg hc]
    go_enter Tryz.func186, Tryz.ntmps186
    go_wp2
    go_ret
    exact ⟨rfl, rfl⟩
theorem szMode_any (c : Mc) (m : Int) (w : World) (h0 : 0 ≤ m) (h1 : m ≤ 1048576) (hn : c.md.next.length ≤ 9223372036854775807) :
    Calls Tryz.prog 152 #[mcVal c, .int .i64 m] w fun e w' => e = .returned (.int .i64 (if m < c.md.next.length then -1 else m - c.md.next.length)) ∧ Below w.heap.size w w' := by
  have HCALL := Lib.hid (fun W => szInts_any c.ao c.md.next.length c.cap m W h0 h1 hn)
  unfold mcVal
  obtain ⟨v, hv⟩ : ∃ v, v = (if m < (c.md.next.length : Int) then (-1 : Int) else m - (c.md.next.length : Int)) := ⟨_, rfl⟩
  rw [← hv] at HCALL ⊢
  have hvb : v = -1 ∨ 0 ≤ v := by rw [hv]; split <;> omega
  clear hv hn
  have HB := Lib.hid ((Below.refl w.heap.size w).alloc (Nat.le_refl _) (.cells #[.int .i64 c.md.rounds, .int .i64 c.md.slots, .slice c.ao c.md.next.length c.cap] 192))
  rcases hvb with rfl | hv0
  · go_enter Tryz.func152, Tryz.ntmps152
    go_wp2_with fail
    refine (HCALL.out _).mono ?_
    rintro e w' ⟨rfl, rfl⟩
    go_wp2_with fail
    go_ret
    exact ⟨rfl, HB.out⟩
  · have hv1 : ¬ v < 0 := by omega
    go_enter Tryz.func152, Tryz.ntmps152
    go_wp2_with fail
    refine (HCALL.out _).mono ?_
    rintro e w' ⟨rfl, rfl⟩
    go_wp2_with fail
    go_ret
    exact ⟨rfl, HB.out⟩
set_option maxHeartbeats 1000000 in
theorem eqMode_yes (c d : Mc) (w : World) (hc : McRd w c) (hd : McRd w d) (e : c.md = d.md) :
    Calls Tryz.prog 157 #[mcVal c, mcVal d] w fun e w' => e = .returned (.bool true) ∧ Below w.heap.size w w' := by
  obtain ⟨⟨r, s, xs⟩, ao, cap⟩ := c
  obtain ⟨⟨r', s', xs'⟩, bo, cap'⟩ := d
  cases e
  have HCALL := Lib.hid (fun W (hb : Below w.heap.size w W) => eq_yes ao bo xs.length xs.length cap cap' xs W (hc.rd.below hb) (hd.rd.below hb) (by have := hc.le; have := hc.cap; dsimp only at *; omega))
  clear hc hd
  unfold mcVal
  dsimp only
  have hb : Below w.heap.size w ((w.alloc (.cells #[.int .i64 r, .int .i64 s, .slice ao xs.length cap] 99)).alloc (.cells #[.int .i64 r, .int .i64 s, .slice bo xs.length cap'] 99)) :=
    below_two ((Below.refl _ _).alloc (Nat.le_refl _) _) ((Below.refl _ _).alloc (Nat.le_refl _) _)
  have HK := Lib.hid (HCALL.out _ hb)
  have HB := Lib.hid hb
  clear hb HCALL
  have n0 : (r != r) = false := by simp
  have n1 : (s != s) = false := by simp
  go_enter Tryz.func157, Tryz.ntmps157
  go_wp2_with fail
  refine HK.out.mono ?_
  rintro e w1 ⟨rfl, b1⟩
  go_wp2_with fail
  go_ret
  exact ⟨rfl, below_two HB.out b1⟩
set_option maxHeartbeats 1000000 in
set_option maxRecDepth 100000 in
set_option linter.unusedSimpArgs false in
theorem eqModes_yes (ao bo : Option Addr) (n c d : Nat) (cs ds : List Mc) (w : World) (hx : RdM w ao n cs) (hy : RdM w bo n ds) (he : mds cs = mds ds) (hn : n ≤ 9223372036854775807) :
    Calls Tryz.prog 118 #[.slice ao n c, .slice bo n d] w fun e w' => e = .returned (.bool true) ∧ Below w.heap.size w w' := by
  have HX := Lib.hid hx; have HY := Lib.hid hy; have HE := Lib.hid he; clear hx hy he
  have hne : ((n : Int) != (n : Int)) = false := by simp
  go_enter Tryz.func118, Tryz.ntmps118
  go_wp2_with fail
  clear hne
  go_loopw [5] (fun i wr => ∃ k : Nat, k ≤ n ∧ i = .int .i64 k ∧ Below w.heap.size w wr) (fun i _ => n - (intOf i).toNat)
  case atStart => exact ⟨0, Nat.zero_le _, rfl, Below.refl _ _⟩
  case round =>
    obtain ⟨k, hk, rfl, hb⟩ := hrel
    by_cases hlt : k < n
    · obtain ⟨g, off, rfl, hg, hx, hxr⟩ := HX.out.at hlt
      obtain ⟨g', off', rfl, hg', hy, hyr⟩ := HY.out.at hlt
      replace hx := hx.below hb hg
      replace hy := hy.below hb hg'
      replace hxr := hxr.below hb
      replace hyr := hyr.below hb
      have hmd : (mcOf cs k).md = (mcOf ds k).md := by rw [← mdOf_mds, ← mdOf_mds, HE.out]
      have HB := Lib.hid hb; clear hb
      generalize mcOf cs k = x at hx hxr hmd
      generalize mcOf ds k = y at hy hyr hmd
      have HGX := Lib.hid hg; have HGY := Lib.hid hg'
      have HXX := Lib.hid hx; have HYY := Lib.hid hy
      have hcall := fun W (hW : Below wr.heap.size wr W) => eqMode_yes x y W (hxr.below hW) (hyr.below hW) hmd
      unfold mcVal at hcall
      have HCALL := Lib.hid hcall
      clear hcall hx hy hg hg' hxr hyr hmd
      obtain ⟨⟨x0, x1, xs⟩, xo, xc⟩ := x
      obtain ⟨⟨y0, y1, ys⟩, yo, yc⟩ := y
      dsimp only at *
      go_upto_region 6 with fail
      refine wp_region_held_drew (S := fun w' => w'.cell? ⟨g, off + k * 3, none⟩ = some (.int .i64 x0) ∧ w'.cell? ⟨g, off + k * 3 + 1, none⟩ = some (.int .i64 x1) ∧ w'.cell? ⟨g, off + k * 3 + 2, none⟩ = some (.slice xo xs.length xc) ∧ w'.cell? ⟨g', off' + k * 3, none⟩ = some (.int .i64 y0) ∧ w'.cell? ⟨g', off' + k * 3 + 1, none⟩ = some (.int .i64 y1) ∧ w'.cell? ⟨g', off' + k * 3 + 2, none⟩ = some (.slice yo ys.length yc)) (by kernel_rfl) (⟨HXX.out.c0, HXX.out.c1, HXX.out.c2, HYY.out.c0, HYY.out.c1, HYY.out.c2⟩) (fun hHeld => ?_)
      refine tk (i := 0) (v := ?_) rfl (Or.inl ⟨by rfl, ?_⟩) (by assumption) ?_
      rotate_left
      · (intro w hSw; (try dsimp only at hSw); go_simp; (try with_reducible rfl))
      try simp only [pa, pb, pc, Act.put, pe, pf, pg]
      refine tk (i := 1) (v := ?_) rfl (Or.inl ⟨by rfl, ?_⟩) (by assumption) ?_
      rotate_left
      · (intro w hSw; (try dsimp only at hSw); go_simp; (try with_reducible rfl))
      try simp only [pa, pb, pc, Act.put, pe, pf, pg]
      refine tk (i := 2) (v := ?_) rfl (Or.inl ⟨by rfl, ?_⟩) (by assumption) ?_
      rotate_left
      · (intro w hSw; (try dsimp only at hSw); go_simp; (try with_reducible rfl))
      try simp only [pa, pb, pc, Act.put, pe, pf, pg]
      refine tk (i := 3) (v := ?_) rfl (Or.inl ⟨by rfl, ?_⟩) (by assumption) ?_
      rotate_left
      · (intro w hSw; (try dsimp only at hSw); go_simp; (try with_reducible rfl))
      try simp only [pa, pb, pc, Act.put, pe, pf, pg]
      refine tk (i := 4) (v := ?_) rfl (Or.inl ⟨by rfl, ?_⟩) (by assumption) ?_
      rotate_left
      · (intro w hSw; (try dsimp only at hSw); go_simp; (try with_reducible rfl))
      try simp only [pa, pb, pc, Act.put, pe, pf, pg]
      refine tk (i := 5) (v := ?_) rfl (Or.inl ⟨by rfl, ?_⟩) (by assumption) ?_
      rotate_left
      · (intro w hSw; (try dsimp only at hSw); go_simp; (try with_reducible rfl))
      try simp only [pa, pb, pc, Act.put, pe, pf, pg]
      refine tk (i := 6) (v := ?_) rfl (Or.inl ⟨by rfl, ?_⟩) (by assumption) ?_
      rotate_left
      · (intro w hSw; (try dsimp only at hSw); go_simp; (try with_reducible rfl))
      try simp only [pa, pb, pc, Act.put, pe, pf, pg]
      refine tk (i := 7) (v := ?_) rfl (Or.inl ⟨by rfl, ?_⟩) (by assumption) ?_
      rotate_left
      · (intro w hSw; (try dsimp only at hSw); go_simp; (try with_reducible rfl))
      try simp only [pa, pb, pc, Act.put, pe, pf, pg]
      refine wpAnyH_ready (rs := [8]) (by kernel_rfl) (by simp) (AllReadyH.cons rfl (fun K hK => ?_) AllReadyH.nil)
      go_simp
      refine (HCALL.out _ (Below.drew (Below.refl wr.heap.size wr))).mono ?_
      rintro e w2 ⟨rfl, b2⟩
      replace b2 := below_two (Below.drew (Below.refl wr.heap.size wr)) b2
      have HX2 := Lib.hid (HXX.out.below b2 (Nat.lt_of_lt_of_le HGX.out HB.out.size))
      have HY2 := Lib.hid (HYY.out.below b2 (Nat.lt_of_lt_of_le HGY.out HB.out.size))
      have HB2 := Lib.hid (below_two HB.out b2)
      clear b2
      go_wp2_with fail
      refine hK.out _ _ ?_ (fun hHeld => ?_)
      · exact ⟨HX2.out.c0, HX2.out.c1, HX2.out.c2, HY2.out.c0, HY2.out.c1, HY2.out.c2⟩
      clear hK K
      try simp only [pa, pb, pc, Act.put, pe, pf, pg]
      refine tk (i := 9) (v := ?_) rfl (Or.inl ⟨by rfl, ?_⟩) (by assumption) ?_
      rotate_left
      · (intro w hSw; (try dsimp only at hSw); go_simp; (try with_reducible rfl))
      try simp only [pa, pb, pc, Act.put, pe, pf, pg]
      refine wpAnyH_done (by kernel_rfl) ?_ _
      go_wp2_with fail
      go_roundw
      case rel => exact ⟨k + 1, by omega, by go_num, HB2.out⟩
      case measure => simp [intOf]; omega
    · have hkn : k = n := by omega
      subst hkn
      have HB := Lib.hid hb; clear hb
      go_wp2_with fail
      go_ret
      exact ⟨rfl, HB.out⟩
end

section
open Go.RowKit
def mkM (q : Int) (c : Mc) : Mc := ⟨⟨q, q + 1, marks (q + 2) c.md.next.length⟩, c.ao, c.cap⟩
def markMs : Int → List Mc → List Mc
  | _, [] => []
  | q, c :: r => mkM q c :: markMs (q + ((2 + c.md.next.length : Nat) : Int)) r
theorem markMs_len : ∀ (q : Int) (cs : List Mc), (markMs q cs).length = cs.length
  | _, [] => rfl
  | q, c :: r => by rw [markMs, List.length_cons, markMs_len _ r, List.length_cons]
theorem mTot_append (a b : List Md) : mTot (a ++ b) = mTot a + mTot b := by
  induction a with
  | nil => simp [mTot]
  | cons x r ih => rw [List.cons_append, mTot, mTot, ih]; omega
theorem mTot_take {cs : List Mc} {k : Nat} (hk : k < cs.length) : mTot (mds (cs.take (k + 1))) = mTot (mds (cs.take k)) + (2 + (mcOf cs k).md.next.length) := by
  rw [List.take_succ_eq_append_getElem hk]
  unfold mds
  rw [List.map_append, mTot_append, List.map_singleton, mTot, mTot, mcOf_get hk]
  omega
theorem mTot_le {cs : List Mc} (k : Nat) : mTot (mds (cs.take k)) ≤ mTot (mds cs) := by
  conv => rhs; rw [← List.take_append_drop k cs]
  unfold mds
  rw [List.map_append, mTot_append]
  omega
theorem markMs_snoc : ∀ (ds : List Mc) (q : Int) (c : Mc), markMs q (ds ++ [c]) = markMs q ds ++ [mkM (q + (mTot (mds ds) : Int)) c]
  | [], q, c => by simp [markMs, mds, mTot]
  | a :: r, q, c => by
    rw [List.cons_append, markMs, markMs_snoc r, markMs, List.cons_append]
    show _ = mkM q a :: (_ ++ [mkM (q + ((mTot (a.md :: mds r) : Nat) : Int)) c])
    rw [mTot, show q + ((2 + a.md.next.length : Nat) : Int) + (mTot (mds r) : Int) = q + ((2 + a.md.next.length + mTot (mds r) : Nat) : Int) from by omega]
def markToM (q : Int) (cs : List Mc) (k : Nat) : List Mc := markMs q (cs.take k) ++ cs.drop k
theorem markToM_zero (q : Int) (cs : List Mc) : markToM q cs 0 = cs := by simp [markToM, markMs]
theorem markToM_all (q : Int) (cs : List Mc) : markToM q cs cs.length = markMs q cs := by simp [markToM]
theorem markToM_now {q : Int} {cs : List Mc} {k : Nat} (hk : k < cs.length) : markToM q cs k = markMs q (cs.take k) ++ mcOf cs k :: cs.drop (k + 1) := by
  unfold markToM; rw [List.drop_eq_getElem_cons hk, mcOf_get hk]
theorem markToM_next {q : Int} {cs : List Mc} {k : Nat} (hk : k < cs.length) : markToM q cs (k + 1) = markMs q (cs.take k) ++ mkM (q + (mTot (mds (cs.take k)) : Int)) (mcOf cs k) :: cs.drop (k + 1) := by
  unfold markToM
  rw [List.take_succ_eq_append_getElem hk, markMs_snoc, List.append_assoc, mcOf_get hk]
  rfl
section
variable {w0 w w' : World} {L1 L2 : List It} {E EI g n cap : Nat} {v : Value} {ms es : List Mc} {c : Mc}
theorem mcOf_mid (ms es : List Mc) (c : Mc) : mcOf (ms ++ c :: es) ms.length = c := by
  unfold mcOf
  rw [List.getD_eq_getElem?_getD, List.getElem?_append_right (Nat.le_refl _), Nat.sub_self]
  rfl
theorem Hold.fieldM (h : Hold w0 w (L1 ++ (mis E EI (.slice (some ⟨g, 0, none⟩) n cap) (ms ++ c :: es) ++ L2))) (hl : (ms ++ c :: es).length = n) {k : Nat} (hk : ms.length = k) {j : Nat} (hj : j < 3) {u : Value} {y : Mc} (e : mcCells y = (mcCells c).set j u) (hv : y.v = c.v) (hx : y.md.next = c.md.next) :
    McIn w g (k * 3) c ∧ w.frozen? ⟨g, k * 3 + j, none⟩ = false ∧ Hold w0 (w.setCell ⟨g, k * 3 + j, none⟩ u) (L1 ++ (mis E EI (.slice (some ⟨g, 0, none⟩) n cap) (ms ++ y :: es) ++ L2)) := by
  have hr := h.getM.row
  rw [hl] at hr
  have hkn : k < n := by rw [← hl, List.length_append, List.length_cons]; omega
  have hin := rowM_in hr hl hkn
  have hmid := mcOf_mid ms es c
  rw [hk] at hmid
  rw [hmid] at hin
  obtain ⟨f, o⟩ := rowM_field hr hl hkn hj (y := y) (u := u) (by rw [hmid]; exact e)
  refine ⟨hin, f, ?_⟩
  have hs : (ms ++ c :: es).set k y = ms ++ y :: es := by rw [List.set_append_right _ _ (by omega), hk, Nat.sub_self, List.set_cons_zero]
  rw [hs] at o
  have hn2 : nxs EI (ms ++ c :: es) = nxs EI (ms ++ y :: es) := by simp [nxs, hv, hx]
  have hl2 : (ms ++ y :: es).length = n := by rw [← hl]; simp
  have h2 : Hold w0 w (L1 ++ mrow E (.slice (some ⟨g, 0, none⟩) n cap) (ms ++ c :: es) :: (nxs EI (ms ++ c :: es) ++ L2)) := h
  have h3 := Hold.mark (p := mrow E (.slice (some ⟨g, 0, none⟩) n cap) (ms ++ c :: es)) (q := mrow E (.slice (some ⟨g, 0, none⟩) n cap) (ms ++ y :: es)) L1 h2 rfl (by unfold mrow; dsimp only; rw [hl2]; exact o) (grown_set' w g (k * 3 + j) u)
  rw [hn2] at h3
  exact h3
theorem Hold.nextM (h : Hold w0 w (L1 ++ (mis E EI v (ms ++ c :: es) ++ L2))) : Own EI w w0.heap.size c.v c.md.next := h.getM.nx c (by simp)
theorem Hold.markM {xs : List Int} {y : Mc} (h : Hold w0 w (L1 ++ (mis E EI v (ms ++ c :: es) ++ L2))) (hv : y.v = c.v) (hc : mcCells y = mcCells c) (o : Own EI w' w0.heap.size c.v xs) (hx : y.md.next = xs) (hg : w.grownBy w' c.v.ownBlock) :
    Hold w0 w' (L1 ++ (mis E EI v (ms ++ y :: es) ++ L2)) := by
  subst hx
  have e1 : mrow E v (ms ++ c :: es) = mrow E v (ms ++ y :: es) := by simp [mrow, hc]
  have e2 : ∀ z : Mc, L1 ++ (mis E EI v (ms ++ z :: es) ++ L2) = (L1 ++ mrow E v (ms ++ z :: es) :: nxs EI ms) ++ ints EI z.v z.md.next :: (nxs EI es ++ L2) := fun z => by simp [mis, nxs]
  rw [e2] at h ⊢
  rw [e1] at h
  refine Hold.mark (p := ints EI c.v c.md.next) (q := ints EI y.v y.md.next) _ h hv ?_ hg
  rw [hv]
  exact o
end
set_option maxHeartbeats 2000000 in
set_option maxRecDepth 100000 in
theorem markModes_row (g n cap : Nat) (cs : List Mc) (L1 L2 : List It) (q : Nat) (w0 w : World) (hl : cs.length = n) (h : Hold w0 w (L1 ++ (mis 99 2 (.slice (some ⟨g, 0, none⟩) n cap) cs ++ L2))) (ht : mTot (mds cs) ≤ 4194304) (hn : n ≤ 1048576) (hq1 : q ≤ 16777216) :
    Calls Tryz.prog 121 #[.slice (some ⟨g, 0, none⟩) n cap, .int .i64 q] w fun e w' => e = .returned (.int .i64 ((q + mTot (mds cs) : Nat) : Int)) ∧ Hold w0 w' (L1 ++ (mis 99 2 (.slice (some ⟨g, 0, none⟩) n cap) (markMs q cs) ++ L2)) := by
  have HL := Lib.hid hl
  have HT := Lib.hid ht
  have HH := Lib.hid (show Hold w0 w (L1 ++ (mis 99 2 (.slice (some ⟨g, 0, none⟩) n cap) (markToM q cs 0) ++ L2)) by rw [markToM_zero]; exact h)
  clear h hl ht
  go_enter Tryz.func121, Tryz.ntmps121
  go_wp2_with fail
  go_loopw [1, 5] (fun v i wr => ∃ k : Nat, k ≤ n ∧ i = .int .i64 k ∧ v = .int .i64 ((q + mTot (mds (cs.take k)) : Nat) : Int) ∧ Hold w0 wr (L1 ++ (mis 99 2 (.slice (some ⟨g, 0, none⟩) n cap) (markToM q cs k) ++ L2))) (fun _ i _ => n - (intOf i).toNat)
  case atStart => exact ⟨0, Nat.zero_le _, rfl, by simp [mds, mTot], HH.out⟩
  case round =>
    clear HH
    obtain ⟨k, hk, rfl, rfl, hh⟩ := hrel
    by_cases hlt : k < n
    · have hkt : k < cs.length := by rw [HL.out]; exact hlt
      have hmk := markToM_next (q := (q : Int)) hkt
      have htk := mTot_take hkt
      have hle := mTot_le (cs := cs) (k + 1)
      have hT := HT.out
      have hLL := HL.out
      rw [markToM_now hkt] at hh
      have hml : (markMs (q : Int) (cs.take k)).length = k := by rw [markMs_len, List.length_take]; omega
      have hll : (markMs (q : Int) (cs.take k) ++ mcOf cs k :: cs.drop (k + 1)).length = n := by rw [List.length_append, hml, List.length_cons, List.length_drop]; omega
      obtain ⟨K, hK⟩ : ∃ K : Nat, K = q + mTot (mds (cs.take k)) := ⟨_, rfl⟩
      rw [show (q : Int) + (mTot (mds (cs.take k)) : Int) = (K : Int) from by omega] at hmk
      rw [← hK]
      have hnx : q + mTot (mds (cs.take (k + 1))) = K + 2 + (mcOf cs k).md.next.length := by omega
      have hK1 : K ≤ 33554432 := by omega
      have hnl : (mcOf cs k).md.next.length ≤ 4194304 := by omega
      generalize hms : markMs (q : Int) (cs.take k) = ms at hh hmk hml hll
      generalize hes : cs.drop (k + 1) = es at hh hmk hll
      generalize hcc : mcOf cs k = c at hh hmk hll hnx hnl
      have HNX := Lib.hid hnx; have HMK := Lib.hid hmk
      clear htk hle hT hLL hms hes hcc hnx hmk hK hkt
      obtain ⟨⟨r, s, xs⟩, ao, cp⟩ := c
      dsimp only at hnl HNX
      obtain ⟨d, f0, h1⟩ := hh.fieldM hll hml (j := 0) (u := .int .i64 (K : Int)) (y := ⟨⟨(K : Int), s, xs⟩, ao, cp⟩) (by omega) rfl rfl rfl
      have hll1 : (ms ++ (⟨⟨(K : Int), s, xs⟩, ao, cp⟩ : Mc) :: es).length = n := by rw [← hll]; simp
      obtain ⟨d', f1, h2⟩ := h1.fieldM hll1 hml (j := 1) (u := .int .i64 ((K : Int) + 1)) (y := ⟨⟨(K : Int), (K : Int) + 1, xs⟩, ao, cp⟩) (by omega) rfl rfl rfl
      obtain ⟨d0, d1, d2⟩ := d
      have hll2 : (ms ++ (⟨⟨(K : Int), (K : Int) + 1, xs⟩, ao, cp⟩ : Mc) :: es).length = n := by rw [← hll]; simp
      obtain ⟨⟨-, -, e2⟩, -, -⟩ := h2.fieldM hll2 hml (j := 1) (u := .int .i64 ((K : Int) + 1)) (y := ⟨⟨(K : Int), (K : Int) + 1, xs⟩, ao, cp⟩) (by omega) rfl rfl rfl
      have hcall := mark_own ao xs.length cp w0.heap.size xs ((K : Int) + 1 + 1) _ rfl h2.nextM (by omega) (by omega) (by omega)
      have HCALL := Lib.hid hcall; have H2 := Lib.hid h2
      have HNEXT := Lib.hid (show ((q + mTot (mds (cs.take (k + 1))) : Nat) : Int) = (K : Int) + 1 + 1 + (xs.length : Int) by rw [HNX.out]; omega)
      clear hcall h2 h1 hh hll hll1 hll2 d' hml HNX
      simp only [Nat.add_zero] at f0 HCALL H2 e2 f1
      go_wp2_with fail
      refine HCALL.out.mono ?_
      rintro e w2 ⟨rfl, o2, g2⟩
      have hfin := H2.out.markM (y := mkM (K : Int) ⟨⟨r, s, xs⟩, ao, cp⟩) (by simp [Mc.v, mkM, marks_len]) (by simp [mcCells, mkM, marks_len]) o2 (by unfold mkM; dsimp only; rw [show (K : Int) + 2 = (K : Int) + 1 + 1 from by omega]) g2
      rw [← HMK.out] at hfin
      have HF := Lib.hid hfin
      clear hfin o2 g2 HCALL H2 HMK d0 d1 d2 e2 f0 f1
      go_wp2_with fail
      go_roundw
      case rel => exact ⟨k + 1, by omega, by go_num, by rw [HNEXT.out], HF.out⟩
      case measure => simp [intOf]; omega
    · have hkn : k = n := by omega
      subst hkn
      have HOO := Lib.hid hh; clear hh
      go_wp2_with fail
      go_ret
      have h := HOO.out
      rw [← HL.out, markToM_all, HL.out] at h
      refine ⟨?_, h⟩
      rw [← HL.out, List.take_length]
      rfl
theorem markModes_any (ao : Option Addr) (n cap : Nat) (cs : List Mc) (L1 L2 : List It) (q : Nat) (w0 w : World) (hl : cs.length = n) (h : Hold w0 w (L1 ++ (mis 99 2 (.slice ao n cap) cs ++ L2))) (ht : mTot (mds cs) ≤ 4194304) (hn : n ≤ 1048576) (hq1 : q ≤ 16777216) :
    Calls Tryz.prog 121 #[.slice ao n cap, .int .i64 q] w fun e w' => e = .returned (.int .i64 ((q + mTot (mds cs) : Nat) : Int)) ∧ Hold w0 w' (L1 ++ (mis 99 2 (.slice ao n cap) (markMs q cs) ++ L2)) := by
  obtain ⟨ao', cap', e, -, -, -, hcase⟩ := h.getM.form
  rw [hl] at e
  cases e
  rcases hcase with hnil | ⟨g, rfl, -, -⟩
  · simp only [Value.slice.injEq] at hnil
    obtain ⟨rfl, rfl, rfl⟩ := hnil
    have hc : cs = [] := List.length_eq_zero_iff.1 hl
    subst hc
    have HH := Lib.hid h; clear h
    go_enter Tryz.func121, Tryz.ntmps121
    go_wp2
    refine wp_loop_rounds 1 ?_
    rw [rounds_succ]
    go_wp2
    go_ret
    exact ⟨ret_int (by simp [mds, mTot]), HH.out⟩
  · exact markModes_row g n cap cs L1 L2 q w0 w hl h ht hn hq1
end

section
open Go.RowKit
def FirstAt (xs : List Int) (x r : Int) : Prop := (r = -1 ∧ ∀ j, j < xs.length → xs.getD j 0 ≠ x) ∨ ∃ k : Nat, r = k ∧ k < xs.length ∧ xs.getD k 0 = x ∧ ∀ j, j < k → xs.getD j 0 ≠ x
theorem getD_mem_iff (xs : List Int) (x : Int) : x ∈ xs ↔ ∃ j, j < xs.length ∧ xs.getD j 0 = x := by
  rw [List.mem_iff_getElem]
  constructor
  · rintro ⟨j, h, e⟩; exact ⟨j, h, by simpa [List.getD, h] using e⟩
  · rintro ⟨j, h, e⟩; exact ⟨j, h, by simpa [List.getD, h] using e⟩
theorem firstAt_mem {xs : List Int} {x r : Int} (h : FirstAt xs x r) : (decide (0 ≤ r)) = decide (x ∈ xs) := by
  rw [decide_eq_decide, getD_mem_iff]
  rcases h with ⟨h1, h2⟩ | ⟨k, h1, h2, h3, h4⟩
  · constructor
    · intro h; omega
    · rintro ⟨j, hj, e⟩; exact absurd e (h2 j hj)
  · exact ⟨fun _ => ⟨k, h2, h3⟩, fun _ => by omega⟩
theorem index_any (ao : Option Addr) (n cap : Nat) (xs : List Int) (x : Int) (w : World) (hr : Rd w ao n xs) (hn : n ≤ 1048576) :
    Calls Tryz.prog 204 #[.slice ao n cap, .int .i64 x] w fun e w' => ∃ r, e = .returned (.int .i64 r) ∧ FirstAt xs x r ∧ w = w' := by
  obtain ⟨hlen, hat⟩ := hr
  have HL := Lib.hid hlen; clear hlen
  have HA := Lib.hid hat; clear hat
  go_enter Tryz.func204, Tryz.ntmps204
  go_wp2
  go_loop [8] (fun i => ∃ k : Nat, k ≤ n ∧ i = .int .i64 k ∧ Hid (∀ j, j < k → xs.getD j 0 ≠ x)) (fun i => n - (intOf i).toNat)
  case atStart => exact ⟨0, Nat.zero_le _, rfl, fun j h => absurd h (by omega)⟩
  case round =>
    obtain ⟨k, hk, rfl, HY⟩ := hrel
    by_cases hlt : k < n
    · obtain ⟨b, off, rfl, hall⟩ := HA.out (by omega)
      have hck := hall k hlt
      clear hall
      obtain ⟨y, hy⟩ : ∃ y, y = xs.getD k 0 := ⟨_, rfl⟩
      rw [← hy] at hck
      have HYK := Lib.hid hy; clear hy
      by_cases hxy : x = y
      · have t1 : (x == y) = true := by simp [hxy]
        have hfin : FirstAt xs x k := .inr ⟨k, rfl, by rw [HL.out]; exact hlt, by rw [← HYK.out, hxy], HY.out⟩
        have HF := Lib.hid hfin; clear hfin hxy
        go_wp2
        go_ret
        exact ⟨_, rfl, HF.out, rfl⟩
      · have t1 : (x == y) = false := by simp [hxy]
        have hfin : ∀ j, j < k + 1 → xs.getD j 0 ≠ x := fun j hj => by
          by_cases e : j = k
          · rw [e, ← HYK.out]; exact fun h => hxy h.symm
          · exact HY.out j (by omega)
        have HF := Lib.hid hfin; clear hfin hxy
        go_wp2
        go_round
        case rel => exact ⟨k + 1, by omega, by go_num, HF⟩
        case measure => simp [intOf]; omega
    · have hkn : k = n := by omega
      subst hkn
      have hfin : FirstAt xs x (-1) := .inl ⟨rfl, fun j hj => HY.out j (by rw [← HL.out]; exact hj)⟩
      have HF := Lib.hid hfin; clear hfin
      go_wp2
      go_ret
      exact ⟨_, rfl, HF.out, rfl⟩
theorem contains_any (ao : Option Addr) (n cap : Nat) (xs : List Int) (x : Int) (w : World) (hr : Rd w ao n xs) (hn : n ≤ 1048576) :
    Calls Tryz.prog 174 #[.slice ao n cap, .int .i64 x] w fun e w' => e = .returned (.bool (decide (x ∈ xs))) ∧ w = w' := by
  have HR := Lib.hid hr; clear hr
  go_enter Tryz.func174, Tryz.ntmps174
  go_wp2_with fail
  refine (index_any _ _ _ xs x _ HR.out hn).mono ?_
  rintro e w' ⟨r, rfl, hf, rfl⟩
  have HF := Lib.hid (firstAt_mem hf); clear hf
  go_wp2
  go_ret
  exact ⟨ret_bool HF.out, rfl⟩
end

section
open Go.RowKit
def smallM (cs : List Mc) : Prop := ∀ c ∈ cs, c.md.next.length ≤ 1048576
theorem isCycle_any (r s : Int) (w : World) : Calls Tryz.prog 172 #[.int .i64 r, .int .i64 s] w fun e w' => e = .returned (.bool (inRange 1 8 r && inRange 1 16 s)) ∧ w = w' := by
  by_cases h0 : 1 ≤ r
  · by_cases h1 : r ≤ 8
    · by_cases h2 : 1 ≤ s
      · by_cases h3 : s ≤ 16
        · have e : (inRange 1 8 r && inRange 1 16 s) = true := by simp [inRange, h0, h1, h2, h3]
          have HE := Lib.hid e; clear e
          go_enter Tryz.func172, Tryz.ntmps172
          go_wp2
          go_ret
          exact ⟨ret_bool (by rw [HE.out] <;> first | rfl | (simp; omega)), rfl⟩
        · have e : (inRange 1 8 r && inRange 1 16 s) = false := by simp [inRange, h3]
          have HE := Lib.hid e; clear e
          go_enter Tryz.func172, Tryz.ntmps172
          go_wp2
          go_ret
          exact ⟨ret_bool (by rw [HE.out] <;> first | rfl | (simp; omega)), rfl⟩
      · have e : (inRange 1 8 r && inRange 1 16 s) = false := by simp [inRange, h2]
        have HE := Lib.hid e; clear e
        go_enter Tryz.func172, Tryz.ntmps172
        go_wp2
        go_ret
        exact ⟨ret_bool (by rw [HE.out] <;> first | rfl | (simp; omega)), rfl⟩
    · have e : (inRange 1 8 r && inRange 1 16 s) = false := by simp [inRange, h1]
      have HE := Lib.hid e; clear e
      go_enter Tryz.func172, Tryz.ntmps172
      go_wp2
      go_ret
      exact ⟨ret_bool (by rw [HE.out] <;> first | rfl | (simp; omega)), rfl⟩
  · have e : (inRange 1 8 r && inRange 1 16 s) = false := by simp [inRange, h0]
    have HE := Lib.hid e; clear e
    go_enter Tryz.func172, Tryz.ntmps172
    go_wp2
    go_ret
    exact ⟨ret_bool (by rw [HE.out] <;> first | rfl | (simp; omega)), rfl⟩
theorem okM_next {t : List Md} {k : Nat} (h : ∀ i, i < k → isMd t.length i (mdOf t i) = true) (hk : isMd t.length k (mdOf t k) = true) : ∀ i, i < k + 1 → isMd t.length i (mdOf t i) = true := fun i hi => by
  rcases Nat.lt_or_ge i k with hl | hl
  · exact h i hl
  · rw [show i = k from by omega]; exact hk
set_option maxHeartbeats 1000000 in
set_option maxRecDepth 100000 in
theorem isModesI_any (ao : Option Addr) (n cap : Nat) (cs : List Mc) (w : World) (hr : RdM w ao n cs) (hn : n ≤ 1048576) (hs : smallM cs) :
    Calls Tryz.prog 133 #[.slice ao n cap] w fun e w' => e = .returned (.bool (isModes (mds cs))) ∧ Below w.heap.size w w' := by
  have hl := (mds_len cs).trans hr.len
  by_cases h0 : n = 0
  · have hF : isModes (mds cs) = false := by unfold isModes; rw [hl, h0]; rfl
    have HF := Lib.hid hF; clear hr hl hs hF
    subst h0
    go_enter Tryz.func133, Tryz.ntmps133
    go_wp2
    go_ret
    rw [HF.out]
    exact ⟨rfl, Below.refl _ _⟩
  have hz : ((n : Int) == 0) = false := by simp [h0]
  by_cases h16 : 16 < n
  · have hF : isModes (mds cs) = false := by unfold isModes; rw [hl, decide_eq_false (show ¬ n ≤ 16 by omega)]; simp
    have HF := Lib.hid hF; clear hr hl hs hF h0
    have hg : (16 : Int) < (n : Int) := by omega
    go_enter Tryz.func133, Tryz.ntmps133
    go_wp2
    go_ret
    rw [HF.out]
    exact ⟨rfl, Below.refl _ _⟩
  have HL := Lib.hid hl
  have HR := Lib.hid hr
  have HS := Lib.hid hs
  have hg : ¬ (16 : Int) < (n : Int) := by omega
  have HN := Lib.hid (show 1 ≤ n ∧ n ≤ 16 by omega)
  clear hl hr hs h0 h16
  go_enter Tryz.func133, Tryz.ntmps133
  go_wp2_with fail
  clear hz hg
  go_loopw [15] (fun i wr => ∃ k : Nat, k ≤ n ∧ i = .int .i64 k ∧ Below w.heap.size w wr ∧ Hid (∀ i, i < k → isMd (mds cs).length i (mdOf (mds cs) i) = true)) (fun i _ => n - (intOf i).toNat)
  case atStart => exact ⟨0, Nat.zero_le _, rfl, Below.refl _ _, fun i h => absurd h (by omega)⟩
  case round =>
    obtain ⟨k, hk, rfl, hb, hall⟩ := hrel
    by_cases hlt : k < n
    · obtain ⟨g, off, rfl, hg, hx, hrd⟩ := HR.out.at hlt
      replace hx := hx.below hb hg
      replace hrd := hrd.below hb
      have hkt : k < cs.length := by rw [HR.out.len]; exact hlt
      have hsm := HS.out _ (mcOf_mem hkt)
      have hno : isMd n k (mcOf cs k).md = false → isModes (mds cs) = false := fun h => modes_no (k := k) (by rw [mds_len]; exact hkt) (by rw [HL.out, mdOf_mds]; exact h)
      have hyes : isMd n k (mcOf cs k).md = true → ∀ i, i < k + 1 → isMd (mds cs).length i (mdOf (mds cs) i) = true := fun h => okM_next hall.out (by rw [HL.out, mdOf_mds]; exact h)
      generalize mcOf cs k = c at hx hrd hsm hno hyes
      have HNO := Lib.hid hno; have HYES := Lib.hid hyes; have HB0 := Lib.hid hb
      clear hno hyes hb hkt hall
      obtain ⟨⟨r, s, xs⟩, xo, xc⟩ := c
      obtain ⟨h0, h1, h2⟩ := hx
      have hrr := hrd.rd
      dsimp only at h0 h1 h2 hrr hsm
      have hb1 := (Below.refl wr.heap.size wr).alloc (Nat.le_refl _) (.cells #[.int .i64 r, .int .i64 s, .slice xo xs.length xc] 99)
      have HB := Lib.hid (below_two HB0.out hb1)
      have HIDX := Lib.hid (areIndices_any xo xs.length xc xs n _ (hrr.below hb1) (by omega))
      have HCON := Lib.hid (contains_any xo xs.length xc xs k _ (hrr.below hb1) hsm)
      have HMD := Lib.hid (show isMd n k ⟨r, s, xs⟩ = ((inRange 1 8 r && inRange 1 16 s) && (rises (n : Int) xs && !decide ((k : Int) ∈ xs))) by unfold isMd; dsimp only; rw [Bool.and_assoc])
      clear hb1 hrd hrr hsm HB0
      rcases hcy : (inRange 1 8 r && inRange 1 16 s) with _ | _
      · have HF := Lib.hid (HNO.out (by rw [HMD.out, hcy]; rfl))
        go_wp2_with fail
        refine (isCycle_any r s _).mono ?_
        rintro e w2 ⟨rfl, rfl⟩
        rw [hcy]
        clear h0 h1 h2
        go_wp2_with fail
        go_ret
        rw [HF.out]
        exact ⟨rfl, HB.out⟩
      rcases hri : rises (n : Int) xs with _ | _
      · have HF := Lib.hid (HNO.out (by rw [HMD.out, hcy, hri]; rfl))
        go_wp2_with fail
        refine (isCycle_any r s _).mono ?_
        rintro e w2 ⟨rfl, rfl⟩
        rw [hcy]
        clear h0 h1 h2
        go_wp2_with fail
        refine HIDX.out.mono ?_
        rintro e w2 ⟨rfl, rfl⟩
        rw [hri]
        go_wp2_with fail
        go_ret
        rw [HF.out]
        exact ⟨rfl, HB.out⟩
      rcases hco : decide ((k : Int) ∈ xs) with _ | _
      · have HF := Lib.hid (HYES.out (by rw [HMD.out, hcy, hri, hco]; rfl))
        go_wp2_with fail
        refine (isCycle_any r s _).mono ?_
        rintro e w2 ⟨rfl, rfl⟩
        rw [hcy]
        clear h0 h1 h2
        go_wp2_with fail
        refine HIDX.out.mono ?_
        rintro e w2 ⟨rfl, rfl⟩
        rw [hri]
        go_wp2_with fail
        refine HCON.out.mono ?_
        rintro e w2 ⟨rfl, rfl⟩
        rw [hco]
        go_wp2_with fail
        go_roundw
        case rel => exact ⟨k + 1, by omega, by go_num, HB.out, HF⟩
        case measure => simp [intOf]; omega
      · have HF := Lib.hid (HNO.out (by rw [HMD.out, hcy, hri, hco]; rfl))
        go_wp2_with fail
        refine (isCycle_any r s _).mono ?_
        rintro e w2 ⟨rfl, rfl⟩
        rw [hcy]
        clear h0 h1 h2
        go_wp2_with fail
        refine HIDX.out.mono ?_
        rintro e w2 ⟨rfl, rfl⟩
        rw [hri]
        go_wp2_with fail
        refine HCON.out.mono ?_
        rintro e w2 ⟨rfl, rfl⟩
        rw [hco]
        go_wp2_with fail
        go_ret
        rw [HF.out]
        exact ⟨rfl, HB.out⟩
    · have hkn : k = n := by omega
      subst hkn
      have HF := Lib.hid (show isModes (mds cs) = true from isModes_iff.2 ⟨by rw [HL.out]; exact HN.out, by rw [HL.out]; rw [HL.out] at hall; exact hall.out⟩)
      have HB := Lib.hid hb; clear hb hall
      go_wp2_with fail
      go_ret
      rw [HF.out]
      exact ⟨rfl, HB.out⟩
theorem isModeOf_any (ao : Option Addr) (n cap : Nat) (m : Int) (t : List Md) (w : World) (hl : t.length = n) (_hn : n ≤ 9223372036854775807) :
    Calls Tryz.prog 134 #[.slice ao n cap, .int .i64 m] w fun e w' => e = .returned (.bool (isMode t m)) ∧ w = w' := by
  by_cases h0 : 0 ≤ m
  · by_cases h1 : m < n
    · have HE := Lib.hid (show isMode t m = true from isMode_iff.2 ⟨h0, by rw [hl]; exact h1⟩)
      go_enter Tryz.func134, Tryz.ntmps134
      go_wp2
      go_ret
      exact ⟨ret_bool (by rw [HE.out] <;> first | rfl | (simp; omega)), rfl⟩
    · have HE := Lib.hid (show isMode t m = false from by rw [Bool.eq_false_iff]; intro h; exact h1 (by have := (isMode_iff.1 h).2; omega))
      go_enter Tryz.func134, Tryz.ntmps134
      go_wp2
      go_ret
      exact ⟨ret_bool (by rw [HE.out] <;> first | rfl | (simp; omega)), rfl⟩
  · have HE := Lib.hid (show isMode t m = false from by rw [Bool.eq_false_iff]; intro h; exact h0 (isMode_iff.1 h).1)
    go_enter Tryz.func134, Tryz.ntmps134
    go_wp2
    go_ret
    exact ⟨ret_bool (by rw [HE.out] <;> first | rfl | (simp; omega)), rfl⟩
end

section
open Go.RowKit
set_option maxHeartbeats 2000000 in
set_option maxRecDepth 100000 in
theorem isModesS_any (ao : Option Addr) (n cap : Nat) (cs : List Mc) (w : World) (hr : RdM w ao n cs) (hn : n ≤ 1048576) (hs : smallM cs) :
    Calls Tryz.prog 196 #[.slice ao n cap] w fun e w' => e = .returned (.bool (isModes (mds cs))) ∧ Below w.heap.size w w' := by
  have hl := (mds_len cs).trans hr.len
  have HIN := Lib.hid (fun W => l01In_any (n : Int) 1 16 W)
  rcases hrg : inRange 1 16 (n : Int) with _ | _
  · have hF : isModes (mds cs) = false := by
      rw [Bool.eq_false_iff]; intro h
      have := (isModes_iff.1 h).1
      rw [hl] at this
      rw [inR11.2 ⟨by omega, by omega⟩] at hrg
      cases hrg
    have HF := Lib.hid hF; clear hr hl hs hF
    go_enter Tryz.func196, Tryz.ntmps196
    go_wp2_with fail
    refine (HIN.out _).mono ?_
    rintro e w1 ⟨rfl, rfl⟩
    rw [hrg]
    go_wp2_with fail
    go_ret
    rw [HF.out]
    exact ⟨rfl, Below.refl _ _⟩
  have HL := Lib.hid hl
  have HR := Lib.hid hr
  have HS := Lib.hid hs
  have HN := Lib.hid (show 1 ≤ n ∧ n ≤ 16 by have := inR11.1 hrg; omega)
  clear hl hr hs
  go_enter Tryz.func196, Tryz.ntmps196
  go_wp2_with fail
  refine (HIN.out _).mono ?_
  rintro e w1 ⟨rfl, rfl⟩
  rw [hrg]
  clear hrg HIN
  go_wp2_with fail
  go_loopw [3] (fun i wr => ∃ k : Nat, k ≤ n ∧ i = .int .i64 k ∧ Below w.heap.size w wr ∧ Hid (∀ i, i < k → isMd (mds cs).length i (mdOf (mds cs) i) = true)) (fun i _ => n - (intOf i).toNat)
  case atStart => exact ⟨0, Nat.zero_le _, rfl, Below.refl _ _, fun i h => absurd h (by omega)⟩
  case round =>
    obtain ⟨k, hk, rfl, hb, hall⟩ := hrel
    by_cases hlt : k < n
    · obtain ⟨g, off, rfl, hg, hx, hrd⟩ := HR.out.at hlt
      replace hx := hx.below hb hg
      replace hrd := hrd.below hb
      have hkt : k < cs.length := by rw [HR.out.len]; exact hlt
      have hsm := HS.out _ (mcOf_mem hkt)
      have hno : isMd n k (mcOf cs k).md = false → isModes (mds cs) = false := fun h => modes_no (k := k) (by rw [mds_len]; exact hkt) (by rw [HL.out, mdOf_mds]; exact h)
      have hyes : isMd n k (mcOf cs k).md = true → ∀ i, i < k + 1 → isMd (mds cs).length i (mdOf (mds cs) i) = true := fun h => okM_next hall.out (by rw [HL.out, mdOf_mds]; exact h)
      generalize mcOf cs k = c at hx hrd hsm hno hyes
      have HNO := Lib.hid hno; have HYES := Lib.hid hyes; have HB0 := Lib.hid hb
      clear hno hyes hb hkt hall
      obtain ⟨⟨r, s, xs⟩, xo, xc⟩ := c
      obtain ⟨h0, h1, h2⟩ := hx
      have hrr := hrd.rd
      dsimp only at h0 h1 h2 hrr hsm
      have hb1 := (Below.refl wr.heap.size wr).alloc (Nat.le_refl _) (.cells #[.int .i64 r, .int .i64 s, .slice xo xs.length xc] 99)
      have HB1 := Lib.hid (below_two HB0.out hb1)
      have HRR := Lib.hid (hrr.below hb1)
      have HIDX := Lib.hid (l01Rises_any xo xs.length xc xs n _ (hrr.below hb1) (by omega) (by omega) (by omega))
      have HMD := Lib.hid (show isMd n k ⟨r, s, xs⟩ = (inRange 1 8 r && (inRange 1 16 s && (rises (n : Int) xs && !decide ((k : Int) ∈ xs)))) from rfl)
      have hat := McAt.new (T := 99) (c := ⟨⟨r, s, xs⟩, xo, xc⟩) wr
      have HAT := Lib.hid hat
      clear hb1 hrd hrr HB0 hat
      have HSM := Lib.hid hsm; clear hsm
      rcases hc1 : inRange 1 8 r with _ | _
      · have HF := Lib.hid (HNO.out (by rw [HMD.out, hc1]; rfl))
        go_wp2_with fail
        refine (l01In_any r 1 8 _).mono ?_
        rintro e w2 ⟨rfl, rfl⟩
        rw [hc1]
        clear h0 h1 h2
        go_wp2_with fail
        go_ret
        rw [HF.out]
        exact ⟨rfl, HB1.out⟩
      rcases hc2 : inRange 1 16 s with _ | _
      · have HF := Lib.hid (HNO.out (by rw [HMD.out, hc1, hc2]; rfl))
        go_wp2_with fail
        refine (l01In_any r 1 8 _).mono ?_
        rintro e w2 ⟨rfl, rfl⟩
        rw [hc1]
        clear h0 h1 h2
        go_wp2_with fail
        refine (l01In_any s 1 16 _).mono ?_
        rintro e w2 ⟨rfl, rfl⟩
        rw [hc2]
        go_wp2_with fail
        go_ret
        rw [HF.out]
        exact ⟨rfl, HB1.out⟩
      rcases hri : rises (n : Int) xs with _ | _
      · have HF := Lib.hid (HNO.out (by rw [HMD.out, hc1, hc2, hri]; rfl))
        go_wp2_with fail
        refine (l01In_any r 1 8 _).mono ?_
        rintro e w2 ⟨rfl, rfl⟩
        rw [hc1]
        clear h0 h1 h2
        go_wp2_with fail
        refine (l01In_any s 1 16 _).mono ?_
        rintro e w2 ⟨rfl, rfl⟩
        rw [hc2]
        go_wp2_with fail
        refine HIDX.out.mono ?_
        rintro e w2 ⟨rfl, b2⟩
        rw [hri]
        have HB2 := Lib.hid (below_two HB1.out b2)
        go_wp2_with fail
        go_ret
        rw [HF.out]
        exact ⟨rfl, HB2.out⟩
      rcases hco : decide ((k : Int) ∈ xs) with _ | _
      · have HF := Lib.hid (HYES.out (by rw [HMD.out, hc1, hc2, hri, hco]; rfl))
        go_wp2_with fail
        refine (l01In_any r 1 8 _).mono ?_
        rintro e w2 ⟨rfl, rfl⟩
        rw [hc1]
        clear h0 h1 h2
        go_wp2_with fail
        refine (l01In_any s 1 16 _).mono ?_
        rintro e w2 ⟨rfl, rfl⟩
        rw [hc2]
        go_wp2_with fail
        refine HIDX.out.mono ?_
        rintro e w2 ⟨rfl, b2⟩
        rw [hri]
        obtain ⟨-, -, d2⟩ := (HAT.out.below b2 HAT.out.lt).in_
        have HB2 := Lib.hid (below_two HB1.out b2)
        have HR2 := Lib.hid (HRR.out.below b2)
        clear b2
        go_wp2_with fail
        refine (l01Has_any _ _ _ xs k _ HR2.out (by have := HSM.out; omega)).mono ?_
        rintro e w3 ⟨rfl, rfl⟩
        rw [hco]
        go_wp2_with fail
        go_roundw
        case rel => exact ⟨k + 1, by omega, by go_num, HB2.out, HF⟩
        case measure => simp [intOf]; omega
      · have HF := Lib.hid (HNO.out (by rw [HMD.out, hc1, hc2, hri, hco]; rfl))
        go_wp2_with fail
        refine (l01In_any r 1 8 _).mono ?_
        rintro e w2 ⟨rfl, rfl⟩
        rw [hc1]
        clear h0 h1 h2
        go_wp2_with fail
        refine (l01In_any s 1 16 _).mono ?_
        rintro e w2 ⟨rfl, rfl⟩
        rw [hc2]
        go_wp2_with fail
        refine HIDX.out.mono ?_
        rintro e w2 ⟨rfl, b2⟩
        rw [hri]
        obtain ⟨-, -, d2⟩ := (HAT.out.below b2 HAT.out.lt).in_
        have HB2 := Lib.hid (below_two HB1.out b2)
        have HR2 := Lib.hid (HRR.out.below b2)
        clear b2
        go_wp2_with fail
        refine (l01Has_any _ _ _ xs k _ HR2.out (by have := HSM.out; omega)).mono ?_
        rintro e w3 ⟨rfl, rfl⟩
        rw [hco]
        go_wp2_with fail
        go_ret
        rw [HF.out]
        exact ⟨rfl, HB2.out⟩
    · have hkn : k = n := by omega
      subst hkn
      have HF := Lib.hid (show isModes (mds cs) = true from isModes_iff.2 ⟨by rw [HL.out]; exact HN.out, by rw [HL.out]; rw [HL.out] at hall; exact hall.out⟩)
      have HB := Lib.hid hb; clear hb hall
      go_wp2_with fail
      go_ret
      rw [HF.out]
      exact ⟨rfl, HB.out⟩
theorem l11Mode_any (ao : Option Addr) (n cap : Nat) (m : Int) (t : List Md) (w : World) (hl : t.length = n) (hn : n ≤ 1048576) :
    Calls Tryz.prog 146 #[.slice ao n cap, .int .i64 m] w fun e w' => e = .returned (.bool (isMode t m)) ∧ w = w' := by
  have HE := Lib.hid (show inRange 0 ((n : Int) - 1) m = isMode t m from by unfold isMode; rw [hl])
  have hw : IntKind.i64.wrap ((n : Int) - 1) = (n : Int) - 1 := by rw [IntKind.wrap_i64]; omega
  go_enter Tryz.func146, Tryz.ntmps146
  go_wp2_with fail
  refine (l01In_any m 0 ((n : Int) - 1) _).mono ?_
  rintro e w1 ⟨rfl, rfl⟩
  rw [HE.out]
  go_wp2_with fail
  go_ret
  exact ⟨rfl, rfl⟩
end
end Go.Proofs.YthihjhidjnadaaaGreat
