/-
  Chapter 16: a booking written, the first booking, an empty table; of the model.
-/
import Derived.Test.YtbbodgeoenjdkaaPlS1
namespace Go.Proofs.Ytbbodgeoenjdkaa
open Go.RowKit

structure PwAt (w W : World) (lo hi : Nat) (v : Value) (R S : Nat) (U : Tab) (x : Dm) (b : Bk) : Prop where
  d : DmBk 38 W w.heap.size x
  bk : BkBk 31 W (w.heap.size + 1) b
  tb : TbAt W lo hi v R S U
  kr : Kr w W lo hi
  hw : hi ≤ w.heap.size
theorem PwAt.start {w : World} {lo hi : Nat} {v : Value} {R S : Nat} {U : Tab} (h : TbAt w lo hi v R S U) (hw : hi ≤ w.heap.size) (x : Dm) (b : Bk) : PwAt w ((w.alloc (.cells #[.int .i64 x.node, .int .i64 x.every, .int .i64 x.size] 38)).alloc (.cells #[.int .i64 b.slot, .int .i64 b.phase] 31)) lo hi v R S U x b := by
  have b1 : Below w.heap.size w (w.alloc (.cells #[.int .i64 x.node, .int .i64 x.every, .int .i64 x.size] 38)) := (Below.refl _ _).alloc (Nat.le_refl _) _
  have b2 := (Below.refl (w.alloc (.cells #[.int .i64 x.node, .int .i64 x.every, .int .i64 x.size] 38)).heap.size (w.alloc (.cells #[.int .i64 x.node, .int .i64 x.every, .int .i64 x.size] 38))).alloc (Nat.le_refl _) (.cells #[.int .i64 b.slot, .int .i64 b.phase] 31)
  have h2 := BkBk.new (T := 31) (x := b) (w.alloc (.cells #[.int .i64 x.node, .int .i64 x.every, .int .i64 x.size] 38))
  rw [World.size_alloc] at h2
  exact ⟨(DmBk.new w).below b2 (by simp), h2, (h.below b1).below b2, Kr.of_below (below_two b1 b2), hw⟩
theorem PwAt.still {w W W' : World} {lo hi : Nat} {v : Value} {R S : Nat} {U : Tab} {x : Dm} {b : Bk} (h : PwAt w W lo hi v R S U x b) (hb : Below W.heap.size W W') : PwAt w W' lo hi v R S U x b :=
  ⟨h.d.below hb h.d.lt, h.bk.below hb h.bk.lt, h.tb.below hb, h.kr.trans (Kr.of_below hb), h.hw⟩
theorem PwAt.put {w W W' : World} {lo hi : Nat} {v : Value} {R S : Nat} {U U' : Tab} {x : Dm} {b : Bk} (h : PwAt w W lo hi v R S U x b) (hk : Kr W W' lo hi) (ht : TbAt W' lo hi v R S U') : PwAt w W' lo hi v R S U' x b :=
  ⟨h.d.kr hk h.hw, h.bk.kr hk (by have := h.hw; omega), ht, h.kr.trans hk, h.hw⟩
set_option maxHeartbeats 4000000 in
set_option maxRecDepth 100000 in
set_option linter.unusedSimpArgs false in
/-- spec.l16Put of a booking that fits. -/
theorem l16Put_any (lo hi : Nat) (v : Value) (R S : Nat) (U : Tab) (x : Dm) (b : Bk) (i : Nat) (w : World) (h : TbAt w lo hi v R S U) (hw : hi ≤ w.heap.size) (hf : plFits U R S x b = true) (hx : isPow x.every = true) (hR : R ≤ 8) :
    Calls Try.prog 79 #[v, dmVal x, bkVal b, .int .i64 (i : Int)] w fun e w' => e = .returned (.tuple #[]) ∧ TbAt w' lo hi v R S (plPut U R x b (i : Int)) ∧ Kr w w' lo hi := by
  have HG0 := Lib.hid (PwAt.start h hw x b)
  obtain ⟨f1, ⟨f2, f3⟩, ⟨f4, f5⟩, -⟩ := plFits_phase hf
  have hx2 := isPow_iff.1 hx
  obtain ⟨ao, cap, rfl, -, -⟩ := h.get
  clear h hf hx
  obtain ⟨nd, ev, sz⟩ := x
  obtain ⟨sl, ph⟩ := b
  dsimp only at f1 f2 f3 f4 f5 hx2
  obtain ⟨s, rfl⟩ : ∃ s : Nat, sl = (s : Int) := ⟨sl.toNat, by omega⟩
  obtain ⟨q, rfl⟩ : ∃ q : Nat, ph = (q : Int) := ⟨ph.toNat, by omega⟩
  obtain ⟨e, rfl⟩ : ∃ e : Nat, ev = (e : Int) := ⟨ev.toNat, by omega⟩
  have he : 0 < e := by omega
  have hs : s < S := by omega
  have hq : q < e := by omega
  have heR : e ≤ R := by omega
  have HPUT := Lib.hid (show plPut U R ⟨nd, (e : Int), sz⟩ ⟨(s : Int), (q : Int)⟩ (i : Int) = plPutTo U e q s (i : Int) R from rfl)
  have HSTART := Lib.hid (plPutTo_start U e q s (i : Int))
  clear f1 f2 f3 f4 f5 hx2
  unfold bkVal dmVal
  dsimp only at HG0 ⊢
  go_enter Try.func79, Try.ntmps79
  go_upto_region 1 with fail
  generalize ((w.alloc (.cells #[.int .i64 nd, .int .i64 (e : Int), .int .i64 sz] 38)).alloc (.cells #[.int .i64 (s : Int), .int .i64 (q : Int)] 31)) = w1 at HG0 ⊢
  have k1 := HG0.out.bk.all.2
  dsimp only at k1
  go_wp2
  clear k1
  go_loopw [8] (fun r wr => ∃ j : Nat, r = .int .i64 ((q + j * e : Nat) : Int) ∧ q + j * e < R + e ∧ Hid (PwAt w wr lo hi (.slice ao R cap) R S (plPutTo U e q s (i : Int) (q + j * e)) ⟨nd, (e : Int), sz⟩ ⟨(s : Int), (q : Int)⟩)) (fun r _ => 8 - (intOf r).toNat)
  case atStart => exact ⟨0, by simp, by omega, by rw [Nat.zero_mul, Nat.add_zero, HSTART.out]; exact HG0.out⟩
  case round =>
    clear HG0
    obtain ⟨j, rfl, hlt2, HG⟩ := hrel
    obtain ⟨r, hr⟩ : ∃ r, r = q + j * e := ⟨_, rfl⟩
    have HJ := Lib.hid (show q + (j + 1) * e = r + e from by rw [Nat.succ_mul]; omega)
    have HNX := Lib.hid (plPut_next U e q s (i : Int) j he)
    have HFIN := Lib.hid (fun h => plPut_fin U e q s (i : Int) j R h hlt2)
    rw [← hr] at HNX HFIN HG hlt2 ⊢
    clear hr
    by_cases hlt : r < R
    · have hlt' : (r : Int) < (R : Int) := by omega
      have hs' : (s : Int) < (S : Int) := by omega
      have HD := Lib.hid (HG.out.still (Below.drew (Below.refl wr.heap.size wr)))
      go_upto_region 4 with fail
      obtain ⟨b9, o9, g, rc, c9, e9, hc0, hrc, hc1, hfz, ⟨hbg, hlo, hhi⟩, hset⟩ := HD.out.tb.set hlt hs (i : Int)
      cases e9
      have HSET := Lib.hid hset; clear hset
      have k0 := HD.out.bk.all.1
      have HK0 := Lib.hid (show wr.drew.cell? ⟨b9, o9 + r, none⟩ = some (.slice (some ⟨g, 0, none⟩) S rc) ∧ wr.drew.cell? ⟨w.heap.size + 1, 0, none⟩ = some (Value.int .i64 (s : Int)) from ⟨hc0, k0⟩)
      have HG3 := Lib.hid (HD.out.put (Kr.of_grown (grown_set wr.drew g s (.int .i64 (i : Int))) hlo hhi) HSET.out)
      rw [HNX.out] at HG3
      have HK3 := Lib.hid (show (wr.drew.setCell ⟨g, s, none⟩ (.int .i64 (i : Int))).cell? ⟨b9, o9 + r, none⟩ = some (.slice (some ⟨g, 0, none⟩) S rc) ∧ (wr.drew.setCell ⟨g, s, none⟩ (.int .i64 (i : Int))).cell? ⟨w.heap.size + 1, 0, none⟩ = some (Value.int .i64 (s : Int)) from ⟨(grown_set wr.drew g s (.int .i64 (i : Int))).cell hc0 (fun h => by cases h; exact hbg rfl), HG3.out.bk.all.1⟩)
      clear hc0
      refine wp_region_held_drew (S := fun w' => w'.cell? ⟨b9, o9 + r, none⟩ = some (Value.slice (some ⟨g, 0, none⟩) S rc) ∧ w'.cell? ⟨w.heap.size + 1, 0, none⟩ = some (Value.int .i64 (s : Int))) (by kernel_rfl) (HK0.out) (fun hHeld => ?_)
      generalize wr.drew = w3 at HD hc1 hfz HSET HK0 HG3 HK3 k0 hHeld ⊢
      refine wpAnyH_take (i := 0) (v := ?_) rfl (by kernel_rfl) (by kernel_rfl) (by kernel_rfl) (fun _ _ _ h => h) (Or.inl ⟨by rfl, ?_⟩) (by assumption) ?_
      rotate_left
      · (intro w hSw; (try dsimp only at hSw); go_simp; (try with_reducible rfl))
      try simp only [List.getElem_toArray, List.getElem_cons_succ, List.getElem_cons_zero, Act.put, List.setIfInBounds_toArray, List.set_cons_zero, List.set_cons_succ]
      refine wpAnyH_take (i := 1) (v := ?_) rfl (by kernel_rfl) (by kernel_rfl) (by kernel_rfl) (fun _ _ _ h => h) (Or.inl ⟨by rfl, ?_⟩) (by assumption) ?_
      rotate_left
      · (intro w hSw; (try dsimp only at hSw); go_simp; (try with_reducible rfl))
      try simp only [List.getElem_toArray, List.getElem_cons_succ, List.getElem_cons_zero, Act.put, List.setIfInBounds_toArray, List.set_cons_zero, List.set_cons_succ]
      refine wpAnyH_take (i := 2) (v := ?_) rfl (by kernel_rfl) (by kernel_rfl) (by kernel_rfl) (fun _ _ _ h => h) (Or.inl ⟨by rfl, ?_⟩) (by assumption) ?_
      rotate_left
      · (intro w hSw; (try dsimp only at hSw); go_simp; (try with_reducible rfl))
      try simp only [List.getElem_toArray, List.getElem_cons_succ, List.getElem_cons_zero, Act.put, List.setIfInBounds_toArray, List.set_cons_zero, List.set_cons_succ]
      refine wpAnyH_take (i := 3) (v := ?_) rfl (by kernel_rfl) (by kernel_rfl) (by kernel_rfl) (fun _ _ _ h => h) (Or.inl ⟨by rfl, ?_⟩) (by assumption) ?_
      rotate_left
      · (intro w hSw; (try dsimp only at hSw); go_simp; (try with_reducible rfl))
      try simp only [List.getElem_toArray, List.getElem_cons_succ, List.getElem_cons_zero, Act.put, List.setIfInBounds_toArray, List.set_cons_zero, List.set_cons_succ]
      refine wpAnyH_take (i := 4) (v := ?_) rfl (by kernel_rfl) (by kernel_rfl) (by kernel_rfl) (fun _ _ _ h => h) (Or.inl ⟨by rfl, ?_⟩) (by assumption) ?_
      rotate_left
      · (intro w hSw; (try dsimp only at hSw); go_simp; (try with_reducible rfl))
      try simp only [List.getElem_toArray, List.getElem_cons_succ, List.getElem_cons_zero, Act.put, List.setIfInBounds_toArray, List.set_cons_zero, List.set_cons_succ]
      refine wpAnyH_take (i := 5) (v := ?_) rfl (by kernel_rfl) (by kernel_rfl) (by kernel_rfl) (fun _ _ _ h => h) (Or.inl ⟨by rfl, ?_⟩) (by assumption) ?_
      rotate_left
      · (intro w hSw; (try dsimp only at hSw); go_simp; (try with_reducible rfl))
      try simp only [List.getElem_toArray, List.getElem_cons_succ, List.getElem_cons_zero, Act.put, List.setIfInBounds_toArray, List.set_cons_zero, List.set_cons_succ]
      refine wpAnyH_take (i := 6) (v := ?_) rfl (by kernel_rfl) (by kernel_rfl) (by kernel_rfl) (fun _ _ _ h => h) (Or.inl ⟨by rfl, ?_⟩) (by assumption) ?_
      rotate_left
      · (intro w hSw; (try dsimp only at hSw); go_simp; (try with_reducible rfl))
      try simp only [List.getElem_toArray, List.getElem_cons_succ, List.getElem_cons_zero, Act.put, List.setIfInBounds_toArray, List.set_cons_zero, List.set_cons_succ]
      refine wpAnyH_take (i := 7) (v := ?_) rfl (by kernel_rfl) (by kernel_rfl) (by kernel_rfl) (fun _ _ _ h => h) (Or.inl ⟨by rfl, ?_⟩) (by assumption) ?_
      rotate_left
      · (intro w hSw; (try dsimp only at hSw); go_simp; (try with_reducible rfl))
      try simp only [List.getElem_toArray, List.getElem_cons_succ, List.getElem_cons_zero, Act.put, List.setIfInBounds_toArray, List.set_cons_zero, List.set_cons_succ]
      refine wpAnyH_ready (rs := [8]) (by kernel_rfl) (by simp) (AllReadyH.cons rfl (fun K hK => ?_) AllReadyH.nil)
      go_simp
      refine hK.out _ _ ?_ (fun hHeld => ?_)
      · exact HK3.out
      clear hK K
      try simp only [List.getElem_toArray, List.getElem_cons_succ, List.getElem_cons_zero, Act.put, List.setIfInBounds_toArray, List.set_cons_zero, List.set_cons_succ]
      refine wpAnyH_done (by kernel_rfl) ?_ _
      have d1 := HG3.out.d.all.2.1
      dsimp only at d1
      go_wp2
      go_roundw
      case rel => exact ⟨j + 1, by rw [HJ.out]; go_num, by rw [HJ.out]; omega, HG3.out⟩
      case measure => simp [intOf]; omega
    · have hge : ¬ (r : Int) < (R : Int) := by omega
      have HT := Lib.hid HG.out.tb
      have HKR := Lib.hid HG.out.kr
      rw [HFIN.out (by omega)] at HT
      go_wp2
      go_end0
      exact ⟨rfl, by rw [HPUT.out]; exact HT.out, HKR.out⟩
end Go.Proofs.Ytbbodgeoenjdkaa
