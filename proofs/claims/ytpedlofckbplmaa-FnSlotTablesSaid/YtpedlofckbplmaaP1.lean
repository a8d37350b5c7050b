/-
  Chapter 11: the laws' functions on slices of modes: made, measured, compared.
-/
import Derived.Test.YtpedlofckbplmaaMw
import Derived.Test.YtpedlofckbplmaaOne
import Derived.Deep.DeepCutAuto
import Derived.Deep.RegionHeld3
namespace Go.Proofs.Ytpedlofckbplmaa
open Go.RowKit

theorem infoMd : (Try.prog.info? 78).map (fun i => (i.zero, i.size, i.bytes)) = some (some (mcVal Mc.zero), 3, 40) := by kernel_rfl
theorem ne_md : 78 ≠ 2 := by decide
def fillM (ds : List Mc) (n : Nat) : List Mc := ds ++ List.replicate (n - ds.length) Mc.zero
theorem fillM_len {t : List Mc} {n : Nat} (h : t.length ≤ n) : (fillM t n).length = n := by unfold fillM; rw [List.length_append, List.length_replicate]; omega
theorem fillM_set {t : List Mc} {n : Nat} (h : t.length < n) (x : Mc) : (fillM t n).set t.length x = fillM (t ++ [x]) n := by
  unfold fillM
  rw [List.set_append_right _ _ (Nat.le_refl _), Nat.sub_self, show n - t.length = (n - (t ++ [x]).length) + 1 from by rw [List.length_append, List.length_singleton]; omega, List.replicate_succ, List.set_cons_zero]
  simp
theorem fillM_full {t : List Mc} : fillM t t.length = t := by unfold fillM; simp
theorem mds_take_succ {cs ds : List Mc} {k : Nat} {d : Mc} (hk : k < cs.length) (h : mds ds = mds (cs.take k)) (hd : d.md = (mcOf cs k).md) : mds (ds ++ [d]) = mds (cs.take (k + 1)) := by
  rw [List.take_succ_eq_append_getElem hk]
  unfold mds at h ⊢
  rw [List.map_append, List.map_append, h, List.map_singleton, List.map_singleton, hd, mcOf_get hk]
/-! ### measured -/
def mzGo : List Md → Int → Int
  | [], m => m
  | x :: r, m => if m < x.next.length then -1 else mzGo r (m - x.next.length)
def mzS (t : List Md) (m : Int) : Int := if m < t.length then -1 else mzGo t (m - t.length)
/-- How many numbers a table's entries hold. -/
def mTot : List Md → Nat
  | [] => 0
  | x :: r => 2 + x.next.length + mTot r
theorem mzGo_drop {t : List Md} {k : Nat} (h : k < t.length) (m : Int) : mzGo (t.drop k) m = if m < (mdOf t k).next.length then -1 else mzGo (t.drop (k + 1)) (m - (mdOf t k).next.length) := by
  rw [List.drop_eq_getElem_cons h, mzGo, mdOf_get h]
theorem mzGo_tot : ∀ (t : List Md) (m : Int), 0 ≤ mzGo t m → (mTot t : Int) ≤ 2 * t.length + m ∧ ∀ x ∈ t, (x.next.length : Int) ≤ m
  | [], m, h => ⟨by simpa [mTot, mzGo] using h, fun _ h => by cases h⟩
  | x :: r, m, h => by
    rw [mzGo] at h
    split at h
    · omega
    · obtain ⟨h1, h2⟩ := mzGo_tot r (m - x.next.length) h
      refine ⟨by rw [mTot, List.length_cons]; omega, fun y hy => ?_⟩
      rcases List.mem_cons.1 hy with rfl | hy
      · omega
      · have := h2 y hy; omega
theorem mzS_ok {t : List Md} (h : 0 ≤ mzS t 1048576) : t.length ≤ 1048576 ∧ mTot t ≤ 3145728 ∧ ∀ x ∈ t, x.next.length ≤ 1048576 := by
  unfold mzS at h
  split at h
  · omega
  · obtain ⟨h1, h2⟩ := mzGo_tot _ _ h
    exact ⟨by omega, by omega, fun x hx => by have := h2 x hx; omega⟩
theorem mzGo_neg : ∀ (t : List Md) (m : Int), 0 ≤ m → mzGo t m = -1 ∨ (0 ≤ mzGo t m ∧ mzGo t m ≤ m)
  | [], m, h => .inr ⟨h, Int.le_refl _⟩
  | x :: r, m, h => by
    rw [mzGo]
    split
    · exact .inl rfl
    · rcases mzGo_neg r (m - x.next.length) (by omega) with h1 | h1
      · exact .inl h1
      · exact .inr ⟨h1.1, by omega⟩
theorem mzS_neg (t : List Md) : mzS t 1048576 = -1 ∨ (0 ≤ mzS t 1048576 ∧ mzS t 1048576 ≤ 1048576) := by
  unfold mzS
  split
  · exact .inl rfl
  · rcases mzGo_neg t (1048576 - t.length) (by omega) with h1 | h1
    · exact .inl h1
    · exact .inr ⟨h1.1, by omega⟩
/-! ### compared -/
set_option maxHeartbeats 1000000 in
/-- laws.eqModeInfo of one entry read twice. -/
theorem eqMode_yes (c d : Mc) (w : World) (hc : McRd w c) (hd : McRd w d) (e : c.md = d.md) :
    Calls Try.prog 79 #[mcVal c, mcVal d] w fun e w' => e = .returned (.bool true) ∧ Below w.heap.size w w' := by
  obtain ⟨⟨r, s, xs⟩, ao, cap⟩ := c
  obtain ⟨⟨r', s', xs'⟩, bo, cap'⟩ := d
  cases e
  have HCALL := Lib.hid (fun W (hb : Below w.heap.size w W) => eq_yes ao bo xs.length xs.length cap cap' xs W (hc.rd.below hb) (hd.rd.below hb) (by have := hc.le; have := hc.cap; dsimp only at *; omega))
  clear hc hd
  unfold mcVal
  dsimp only
  have hb : Below w.heap.size w ((w.alloc (.cells #[.int .i64 r, .int .i64 s, .slice ao xs.length cap] 78)).alloc (.cells #[.int .i64 r, .int .i64 s, .slice bo xs.length cap'] 78)) :=
    below_two ((Below.refl _ _).alloc (Nat.le_refl _) _) ((Below.refl _ _).alloc (Nat.le_refl _) _)
  have HK := Lib.hid (HCALL.out _ hb)
  have HB := Lib.hid hb
  clear hb HCALL
  have n0 : (r != r) = false := by simp
  have n1 : (s != s) = false := by simp
  go_enter Try.func79, Try.ntmps79
  go_wp2_with fail
  refine HK.out.mono ?_
  rintro e w1 ⟨rfl, b1⟩
  go_wp2_with fail
  go_ret
  exact ⟨rfl, below_two HB.out b1⟩
set_option maxHeartbeats 1000000 in
set_option maxRecDepth 100000 in
set_option linter.unusedSimpArgs false in
/-- laws.eqModeInfoS of one table read twice. -/
theorem eqModes_yes (ao bo : Option Addr) (n c d : Nat) (cs ds : List Mc) (w : World) (hx : RdM w ao n cs) (hy : RdM w bo n ds) (he : mds cs = mds ds) (hn : n ≤ 9223372036854775807) :
    Calls Try.prog 35 #[.slice ao n c, .slice bo n d] w fun e w' => e = .returned (.bool true) ∧ Below w.heap.size w w' := by
  have HX := Lib.hid hx; have HY := Lib.hid hy; have HE := Lib.hid he; clear hx hy he
  have hne : ((n : Int) != (n : Int)) = false := by simp
  go_enter Try.func35, Try.ntmps35
  go_wp2_with fail
  clear hne
  go_loopw [5] (fun i wr => ∃ k : Nat, k ≤ n ∧ i = .int .i64 k ∧ Below w.heap.size w wr) (fun i _ => n - (intOf i).toNat)
  case atStart => exact ⟨0, Nat.zero_le _, rfl, Below.refl _ _⟩
  case round =>
    obtain ⟨k, hk, rfl, hb⟩ := hrel
    by_cases hlt : k < n
    · obtain ⟨g, off, rfl, hg, hx, hxr⟩ := HX.out.at hlt
      obtain ⟨g', off', rfl, hg', hy, hyr⟩ := HY.out.at hlt
      replace hx := hx.below hb hg
      replace hy := hy.below hb hg'
      replace hxr := hxr.below hb
      replace hyr := hyr.below hb
      have hmd : (mcOf cs k).md = (mcOf ds k).md := by rw [← mdOf_mds, ← mdOf_mds, HE.out]
      have HB := Lib.hid hb; clear hb
      generalize mcOf cs k = x at hx hxr hmd
      generalize mcOf ds k = y at hy hyr hmd
      have HGX := Lib.hid hg; have HGY := Lib.hid hg'
      have HXX := Lib.hid hx; have HYY := Lib.hid hy
      have hcall := fun W (hW : Below wr.heap.size wr W) => eqMode_yes x y W (hxr.below hW) (hyr.below hW) hmd
      unfold mcVal at hcall
      have HCALL := Lib.hid hcall
      clear hcall hx hy hg hg' hxr hyr hmd
      obtain ⟨⟨x0, x1, xs⟩, xo, xc⟩ := x
      obtain ⟨⟨y0, y1, ys⟩, yo, yc⟩ := y
      dsimp only at *
      go_upto_region 6 with fail
      refine wp_region_held_drew (S := fun w' => w'.cell? ⟨g, off + k * 3, none⟩ = some (.int .i64 x0) ∧ w'.cell? ⟨g, off + k * 3 + 1, none⟩ = some (.int .i64 x1) ∧ w'.cell? ⟨g, off + k * 3 + 2, none⟩ = some (.slice xo xs.length xc) ∧ w'.cell? ⟨g', off' + k * 3, none⟩ = some (.int .i64 y0) ∧ w'.cell? ⟨g', off' + k * 3 + 1, none⟩ = some (.int .i64 y1) ∧ w'.cell? ⟨g', off' + k * 3 + 2, none⟩ = some (.slice yo ys.length yc)) (by kernel_rfl) (⟨HXX.out.c0, HXX.out.c1, HXX.out.c2, HYY.out.c0, HYY.out.c1, HYY.out.c2⟩) (fun hHeld => ?_)
      refine wpAnyH_take (i := 0) (v := ?_) rfl (by kernel_rfl) (by kernel_rfl) (by kernel_rfl) (fun _ _ _ h => h) (Or.inl ⟨by rfl, ?_⟩) (by assumption) ?_
      rotate_left
      · (intro w hSw; (try dsimp only at hSw); go_simp; (try with_reducible rfl))
      try simp only [List.getElem_toArray, List.getElem_cons_succ, List.getElem_cons_zero, Act.put, List.setIfInBounds_toArray, List.set_cons_zero, List.set_cons_succ]
      refine wpAnyH_take (i := 1) (v := ?_) rfl (by kernel_rfl) (by kernel_rfl) (by kernel_rfl) (fun _ _ _ h => h) (Or.inl ⟨by rfl, ?_⟩) (by assumption) ?_
      rotate_left
      · (intro w hSw; (try dsimp only at hSw); go_simp; (try with_reducible rfl))
      try simp only [List.getElem_toArray, List.getElem_cons_succ, List.getElem_cons_zero, Act.put, List.setIfInBounds_toArray, List.set_cons_zero, List.set_cons_succ]
      refine wpAnyH_take (i := 2) (v := ?_) rfl (by kernel_rfl) (by kernel_rfl) (by kernel_rfl) (fun _ _ _ h => h) (Or.inl ⟨by rfl, ?_⟩) (by assumption) ?_
      rotate_left
      · (intro w hSw; (try dsimp only at hSw); go_simp; (try with_reducible rfl))
      try simp only [List.getElem_toArray, List.getElem_cons_succ, List.getElem_cons_zero, Act.put, List.setIfInBounds_toArray, List.set_cons_zero, List.set_cons_succ]
      refine wpAnyH_take (i := 3) (v := ?_) rfl (by kernel_rfl) (by kernel_rfl) (by kernel_rfl) (fun _ _ _ h => h) (Or.inl ⟨by rfl, ?_⟩) (by assumption) ?_
      rotate_left
      · (intro w hSw; (try dsimp only at hSw); go_simp; (try with_reducible rfl))
      try simp only [List.getElem_toArray, List.getElem_cons_succ, List.getElem_cons_zero, Act.put, List.setIfInBounds_toArray, List.set_cons_zero, List.set_cons_succ]
      refine wpAnyH_take (i := 4) (v := ?_) rfl (by kernel_rfl) (by kernel_rfl) (by kernel_rfl) (fun _ _ _ h => h) (Or.inl ⟨by rfl, ?_⟩) (by assumption) ?_
      rotate_left
      · (intro w hSw; (try dsimp only at hSw); go_simp; (try with_reducible rfl))
      try simp only [List.getElem_toArray, List.getElem_cons_succ, List.getElem_cons_zero, Act.put, List.setIfInBounds_toArray, List.set_cons_zero, List.set_cons_succ]
      refine wpAnyH_take (i := 5) (v := ?_) rfl (by kernel_rfl) (by kernel_rfl) (by kernel_rfl) (fun _ _ _ h => h) (Or.inl ⟨by rfl, ?_⟩) (by assumption) ?_
      rotate_left
      · (intro w hSw; (try dsimp only at hSw); go_simp; (try with_reducible rfl))
      try simp only [List.getElem_toArray, List.getElem_cons_succ, List.getElem_cons_zero, Act.put, List.setIfInBounds_toArray, List.set_cons_zero, List.set_cons_succ]
      refine wpAnyH_take (i := 6) (v := ?_) rfl (by kernel_rfl) (by kernel_rfl) (by kernel_rfl) (fun _ _ _ h => h) (Or.inl ⟨by rfl, ?_⟩) (by assumption) ?_
      rotate_left
      · (intro w hSw; (try dsimp only at hSw); go_simp; (try with_reducible rfl))
      try simp only [List.getElem_toArray, List.getElem_cons_succ, List.getElem_cons_zero, Act.put, List.setIfInBounds_toArray, List.set_cons_zero, List.set_cons_succ]
      refine wpAnyH_take (i := 7) (v := ?_) rfl (by kernel_rfl) (by kernel_rfl) (by kernel_rfl) (fun _ _ _ h => h) (Or.inl ⟨by rfl, ?_⟩) (by assumption) ?_
      rotate_left
      · (intro w hSw; (try dsimp only at hSw); go_simp; (try with_reducible rfl))
      try simp only [List.getElem_toArray, List.getElem_cons_succ, List.getElem_cons_zero, Act.put, List.setIfInBounds_toArray, List.set_cons_zero, List.set_cons_succ]
      refine wpAnyH_ready (rs := [8]) (by kernel_rfl) (by simp) (AllReadyH.cons rfl (fun K hK => ?_) AllReadyH.nil)
      go_simp
      refine (HCALL.out _ (Below.drew (Below.refl wr.heap.size wr))).mono ?_
      rintro e w2 ⟨rfl, b2⟩
      replace b2 := below_two (Below.drew (Below.refl wr.heap.size wr)) b2
      have HX2 := Lib.hid (HXX.out.below b2 (Nat.lt_of_lt_of_le HGX.out HB.out.size))
      have HY2 := Lib.hid (HYY.out.below b2 (Nat.lt_of_lt_of_le HGY.out HB.out.size))
      have HB2 := Lib.hid (below_two HB.out b2)
      clear b2
      go_wp2_with fail
      refine hK.out _ _ ?_ (fun hHeld => ?_)
      · exact ⟨HX2.out.c0, HX2.out.c1, HX2.out.c2, HY2.out.c0, HY2.out.c1, HY2.out.c2⟩
      clear hK K
      try simp only [List.getElem_toArray, List.getElem_cons_succ, List.getElem_cons_zero, Act.put, List.setIfInBounds_toArray, List.set_cons_zero, List.set_cons_succ]
      refine wpAnyH_take (i := 9) (v := ?_) rfl (by kernel_rfl) (by kernel_rfl) (by kernel_rfl) (fun _ _ _ h => h) (Or.inl ⟨by rfl, ?_⟩) (by assumption) ?_
      rotate_left
      · (intro w hSw; (try dsimp only at hSw); go_simp; (try with_reducible rfl))
      try simp only [List.getElem_toArray, List.getElem_cons_succ, List.getElem_cons_zero, Act.put, List.setIfInBounds_toArray, List.set_cons_zero, List.set_cons_succ]
      refine wpAnyH_done (by kernel_rfl) ?_ _
      go_wp2_with fail
      go_roundw
      case rel => exact ⟨k + 1, by omega, by go_num, HB2.out⟩
      case measure => simp [intOf]; omega
    · have hkn : k = n := by omega
      subst hkn
      have HB := Lib.hid hb; clear hb
      go_wp2_with fail
      go_ret
      exact ⟨rfl, HB.out⟩
end Go.Proofs.Ytpedlofckbplmaa
