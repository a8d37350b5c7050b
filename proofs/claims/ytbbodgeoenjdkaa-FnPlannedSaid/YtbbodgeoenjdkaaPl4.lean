/-
  Chapter 16: a demand gets a booking, by the program's planner.
-/
import Derived.Test.YtbbodgeoenjdkaaPl3
namespace Go.Proofs.Ytbbodgeoenjdkaa
open Go.RowKit Go.Maps

theorem BkBk.kp {T b p q : Nat} {w w' : World} {x : Bk} (h : BkBk T w b x) (hk : Kp w w' p q) (h1 : b ≠ p) (h2 : b ≠ q) : BkBk T w' b x := (hk.block b h.lt h1 h2).trans h
theorem DmBk.kp {T b p q : Nat} {w w' : World} {x : Dm} (h : DmBk T w b x) (hk : Kp w w' p q) (h1 : b ≠ p) (h2 : b ≠ q) : DmBk T w' b x := (hk.block b h.lt h1 h2).trans h
structure GvAt (w W : World) (p mb R S : Nat) (T : Tab) (t : List Dm) (k : Nat) (x : Dm) (b : Bk) : Prop where
  bk : BkBk 31 W w.heap.size b
  d : DmBk 38 W (w.heap.size + 1) x
  pl : PlAt W p mb R S T t k
  kp : Kp w W p mb
  pw : p < w.heap.size
  mw : mb < w.heap.size
theorem GvAt.start {w : World} {p mb R S k : Nat} {T : Tab} {t : List Dm} (h : PlAt w p mb R S T t k) (x : Dm) (b : Bk) : GvAt w ((w.alloc (.cells #[.int .i64 b.slot, .int .i64 b.phase] 31)).alloc (.cells #[.int .i64 x.node, .int .i64 x.every, .int .i64 x.size] 38)) p mb R S T t k x b := by
  have b1 : Below w.heap.size w (w.alloc (.cells #[.int .i64 b.slot, .int .i64 b.phase] 31)) := (Below.refl _ _).alloc (Nat.le_refl _) _
  have b2 := (Below.refl (w.alloc (.cells #[.int .i64 b.slot, .int .i64 b.phase] 31)).heap.size (w.alloc (.cells #[.int .i64 b.slot, .int .i64 b.phase] 31))).alloc (Nat.le_refl _) (.cells #[.int .i64 x.node, .int .i64 x.every, .int .i64 x.size] 38)
  have h2 := DmBk.new (T := 38) (x := x) (w.alloc (.cells #[.int .i64 b.slot, .int .i64 b.phase] 31))
  rw [World.size_alloc] at h2
  exact ⟨(BkBk.new w).below b2 (by simp), h2, (h.still b1).still b2, Kp.of_below (below_two b1 b2), h.lt, h.mlt⟩
theorem GvAt.still {w W W' : World} {p mb R S k : Nat} {T : Tab} {t : List Dm} {x : Dm} {b : Bk} (h : GvAt w W p mb R S T t k x b) (hb : Below W.heap.size W W') : GvAt w W' p mb R S T t k x b :=
  ⟨h.bk.below hb h.bk.lt, h.d.below hb h.d.lt, h.pl.still hb, h.kp.trans (Kp.of_below hb), h.pw, h.mw⟩
theorem GvAt.put {w W W' : World} {p mb R S k k' : Nat} {T T' : Tab} {t : List Dm} {x : Dm} {b : Bk} (h : GvAt w W p mb R S T t k x b) (hk : Kp W W' p mb) (hp : PlAt W' p mb R S T' t k') : GvAt w W' p mb R S T' t k' x b :=
  ⟨h.bk.kp hk (by have := h.pw; omega) (by have := h.mw; omega), h.d.kp hk (by have := h.pw; omega) (by have := h.mw; omega), hp, h.kp.trans hk, h.pw, h.mw⟩
/-- A booking written at one round. -/
theorem GvAt.cell {w W : World} {p mb R S k : Nat} {T : Tab} {t : List Dm} {x : Dm} {b : Bk} (h : GvAt w W p mb R S T t k x b) {r s : Nat} (v : Int) (hr : r < 8) (hs : s < 16) : GvAt w (W.setCell ⟨p, 2 + r * 16 + s, none⟩ (.int .i64 v)) p mb R S (setTab T r s v) t k x b :=
  h.put (Kp.of_grown (grown_set W p _ _) (.inl rfl)) (h.pl.set v hr hs)
theorem plPut_next (T : Tab) (e q s : Nat) (i : Int) (j : Nat) (he : 0 < e) : setTab (plPutTo T e q s i (q + j * e)) (q + j * e) s i = plPutTo T e q s i (q + (j + 1) * e) := by
  unfold setTab
  exact plPutTo_next T e q s i j he
theorem plPut_fin (T : Tab) (e q s : Nat) (i : Int) (j R : Nat) (h1 : R ≤ q + j * e) (h2 : q + j * e < R + e) : plPutTo T e q s i (q + j * e) = plPutTo T e q s i R := by
  funext r c
  unfold plPutTo
  by_cases hc : c = s ∧ plHits e q r = true
  · have hr : r < q + j * e ↔ r < R := by
      constructor
      · intro h
        cases j with
        | zero =>
          have := plHits_low (e := e) (p := q) (r := r) (by simpa using h)
          rw [this] at hc; simp at hc
        | succ j =>
          by_cases h3 : q + j * e < r
          · rw [plHits_gap h3 h] at hc; simp at hc
          · rw [Nat.succ_mul] at h2; omega
      · intro h; omega
    simp only [hc.1, hc.2, true_and]
    by_cases h : r < R
    · rw [if_pos (hr.2 h), if_pos h]
    · rw [if_neg (fun h' => h (hr.1 h')), if_neg h]
  · rw [if_neg (fun h => hc ⟨h.1, h.2.1⟩), if_neg (fun h => hc ⟨h.1, h.2.1⟩)]
/-- The demand's booking is known: it is waiting no more. -/
theorem give_none (p mb R S k : Nat) (T : Tab) (t : List Dm) (b : Bk) (w : World) (h : PlAt w p mb R S T t k) (hk : t.length ≤ k) (hk2 : k ≤ 1048576) :
    Calls Try.prog 80 #[.pointer (some ⟨p, 0, none⟩), .int .i64 (k : Int), bkVal b] w fun e w' => e = .returned (.bool false) ∧ Below w.heap.size w w' := by
  have HP := Lib.hid (GvAt.start h Dm.zero b)
  have HPl := Lib.hid (h.still (show Below w.heap.size w (w.alloc (.cells #[.int .i64 b.slot, .int .i64 b.phase] 31)) from (Below.refl _ _).alloc (Nat.le_refl _) _))
  have HB0 := Lib.hid (show Below w.heap.size w (w.alloc (.cells #[.int .i64 b.slot, .int .i64 b.phase] 31)) from (Below.refl _ _).alloc (Nat.le_refl _) _)
  have HLK := Lib.hid (fun W (hW : PlAt W p mb R S T t k) => FunMap.look W hW.map true und_i64 Try.underlying85 (zeroDm W) (k : Int) ⟨by omega, by omega⟩)
  have HWF := Lib.hid (waitF_out (t := t) (k := k) (i := k) (.inr hk))
  clear h
  unfold bkVal
  go_enter Try.func80, Try.ntmps80
  go_upto_region 1 with fail
  generalize w.alloc (.cells #[.int .i64 b.slot, .int .i64 b.phase] 31) = w1 at HPl HB0 HP ⊢
  have hlk := HLK.out w1 HPl.out
  rw [HWF.out] at hlk
  unfold dmVal Dm.zero at hlk
  dsimp only at hlk
  have cm := HPl.out.cm
  go_wp2_with fail
  go_ret
  exact ⟨rfl, HB0.out.alloc (by exact HB0.out.size) _⟩
set_option maxHeartbeats 4000000 in
set_option maxRecDepth 100000 in
theorem give_false (p mb R S k : Nat) (T : Tab) (t : List Dm) (b : Bk) (w : World) (h : PlAt w p mb R S T t k) (hk : k < t.length) (hk2 : t.length ≤ 1048576) (hx : isPow (dmOf t k).every = true) (hR : R ≤ 8) (hS : S ≤ 16) (hf : plFits T R S (dmOf t k) b = false) :
    Calls Try.prog 80 #[.pointer (some ⟨p, 0, none⟩), .int .i64 (k : Int), bkVal b] w fun e w' => e = .returned (.bool false) ∧ Below w.heap.size w w' := by
  obtain ⟨x, hxe⟩ : ∃ x, x = dmOf t k := ⟨_, rfl⟩
  rw [← hxe] at hx hf
  have HPl := Lib.hid (h.still (show Below w.heap.size w (w.alloc (.cells #[.int .i64 b.slot, .int .i64 b.phase] 31)) from (Below.refl _ _).alloc (Nat.le_refl _) _))
  have HB0 := Lib.hid (show Below w.heap.size w (w.alloc (.cells #[.int .i64 b.slot, .int .i64 b.phase] 31)) from (Below.refl _ _).alloc (Nat.le_refl _) _)
  have HK1 := Lib.hid (BkBk.new (T := 31) (x := b) w)
  have HLK := Lib.hid (fun W (hW : PlAt W p mb R S T t k) => FunMap.look W hW.map true und_i64 Try.underlying85 (zeroDm W) (k : Int) ⟨by omega, by omega⟩)
  have HWF := Lib.hid (waitF_at (t := t) (k := k) (i := k) (Nat.le_refl _) hk)
  have HC := Lib.hid (fun W (hW : PlAt W p mb R S T t k) => isPossible_any p mb R S k T t x b W hW hx hR hS)
  rw [hf, ← hxe] at *
  clear h hxe
  unfold bkVal at *
  unfold dmVal at HC
  go_enter Try.func80, Try.ntmps80
  go_upto_region 1 with fail
  generalize w.alloc (.cells #[.int .i64 b.slot, .int .i64 b.phase] 31) = w1 at HPl HB0 HK1 ⊢
  have hlk := HLK.out w1 HPl.out
  rw [HWF.out] at hlk
  unfold dmVal at hlk
  dsimp only at hlk
  have cm := HPl.out.cm
  have HB1 := Lib.hid (show Below w.heap.size w (w1.alloc (.cells #[.int .i64 x.node, .int .i64 x.every, .int .i64 x.size] 38)) from HB0.out.alloc (by exact HB0.out.size) _)
  have HP1 := Lib.hid (HPl.out.still (show Below w1.heap.size w1 (w1.alloc (.cells #[.int .i64 x.node, .int .i64 x.every, .int .i64 x.size] 38)) from (Below.refl _ _).alloc (Nat.le_refl _) _))
  have HK2 := Lib.hid (HK1.out.below (show Below w1.heap.size w1 (w1.alloc (.cells #[.int .i64 x.node, .int .i64 x.every, .int .i64 x.size] 38)) from (Below.refl _ _).alloc (Nat.le_refl _) _) HK1.out.lt)
  have HD2 := Lib.hid (DmBk.new (T := 38) (x := x) w1)
  go_upto_region 2 with fail
  clear hlk cm
  generalize w1.alloc (.cells #[.int .i64 x.node, .int .i64 x.every, .int .i64 x.size] 38) = w2 at HB1 HP1 HK2 HD2 ⊢
  obtain ⟨k0, k1⟩ := HK2.out.all
  obtain ⟨d0, d1, d2⟩ := HD2.out.all
  go_wp2_with (go_at_call 85; refine (HC.out _ HP1.out).mono ?_; rintro e w3 ⟨rfl, b2⟩)
  go_ret
  exact ⟨rfl, below_two HB1.out b2⟩
set_option maxHeartbeats 4000000 in
set_option maxRecDepth 100000 in
set_option linter.unusedSimpArgs false in
theorem give_true (p mb R S k : Nat) (T : Tab) (t : List Dm) (b : Bk) (w : World) (h : PlAt w p mb R S T t k) (hk : k < t.length) (hk2 : t.length ≤ 1048576) (hx : isPow (dmOf t k).every = true) (hR : R ≤ 8) (hS : S ≤ 16) (hf : plFits T R S (dmOf t k) b = true) :
    Calls Try.prog 80 #[.pointer (some ⟨p, 0, none⟩), .int .i64 (k : Int), bkVal b] w fun e w' => e = .returned (.bool true) ∧ PlAt w' p mb R S (plPut T R (dmOf t k) b (k : Int)) t (k + 1) ∧ Kp w w' p mb := by
  obtain ⟨x, hxe⟩ : ∃ x, x = dmOf t k := ⟨_, rfl⟩
  have HWF := Lib.hid (waitF_at (t := t) (k := k) (i := k) (Nat.le_refl _) hk)
  rw [← hxe] at hx hf HWF ⊢
  have HGV := Lib.hid (GvAt.start h x b)
  have HPl := Lib.hid (h.still (show Below w.heap.size w (w.alloc (.cells #[.int .i64 b.slot, .int .i64 b.phase] 31)) from (Below.refl _ _).alloc (Nat.le_refl _) _))
  have HK1 := Lib.hid (BkBk.new (T := 31) (x := b) w)
  have HSZ := Lib.hid (show (w.alloc (.cells #[.int .i64 b.slot, .int .i64 b.phase] 31)).heap.size = w.heap.size + 1 from World.size_alloc _ _)
  have HLK := Lib.hid (fun W (hW : PlAt W p mb R S T t k) => FunMap.look W hW.map true und_i64 Try.underlying85 (zeroDm W) (k : Int) ⟨by omega, by omega⟩)
  have HC := Lib.hid (fun W (hW : PlAt W p mb R S T t k) => isPossible_any p mb R S k T t x b W hW hx hR hS)
  rw [hf] at HC
  obtain ⟨f1, ⟨f2, f3⟩, ⟨f4, f5⟩, -⟩ := plFits_phase hf
  clear h hxe hf
  obtain ⟨nd, ev, sz⟩ := x
  obtain ⟨sl, ph⟩ := b
  dsimp only at f1 f2 f3 f4 f5
  obtain ⟨s, rfl⟩ : ∃ s : Nat, sl = (s : Int) := ⟨sl.toNat, by omega⟩
  obtain ⟨q, rfl⟩ : ∃ q : Nat, ph = (q : Int) := ⟨ph.toNat, by omega⟩
  obtain ⟨e, rfl⟩ : ∃ e : Nat, ev = (e : Int) := ⟨ev.toNat, by omega⟩
  have he : 0 < e := by omega
  have hs : s < 16 := by omega
  have hq : q < e := by omega
  have heR : e ≤ R := by omega
  have HPUT := Lib.hid (show plPut T R ⟨nd, (e : Int), sz⟩ ⟨(s : Int), (q : Int)⟩ (k : Int) = plPutTo T e q s (k : Int) R from rfl)
  have HSTART := Lib.hid (plPutTo_start T e q s (k : Int))
  clear f1 f2 f3 f4 f5
  unfold bkVal dmVal at *
  dsimp only at HC HGV HPl HK1 HSZ ⊢
  go_enter Try.func80, Try.ntmps80
  go_upto_region 1 with fail
  generalize w.alloc (.cells #[.int .i64 (s : Int), .int .i64 (q : Int)] 31) = w1 at HPl HK1 HGV HSZ ⊢
  have hlk := HLK.out w1 HPl.out
  rw [HWF.out] at hlk
  dsimp only at hlk
  have cm := HPl.out.cm
  go_upto_region 2 with fail
  clear hlk cm HPl HK1
  rw [HSZ.out]
  generalize w1.alloc (.cells #[.int .i64 nd, .int .i64 (e : Int), .int .i64 sz] 38) = w5 at HGV ⊢
  obtain ⟨k0, k1⟩ := HGV.out.bk.all
  obtain ⟨d0, d1, d2⟩ := HGV.out.d.all
  dsimp only at k0 k1 d0 d1 d2
  go_upto_region 4 with (go_at_call 85; refine (HC.out _ HGV.out.pl).mono ?_; rintro e2 w2 ⟨rfl, b2⟩)
  clear k0 k1 d0 d1 d2
  have HG := Lib.hid (HGV.out.still b2)
  clear HGV b2
  obtain ⟨k0, k1⟩ := HG.out.bk.all
  dsimp only at k0 k1
  go_wp2
  clear k0 k1
  go_loopw [9] (fun r wr => ∃ j : Nat, r = .int .i64 ((q + j * e : Nat) : Int) ∧ q + j * e < R + e ∧ Hid (GvAt w wr p mb R S (plPutTo T e q s (k : Int) (q + j * e)) t k ⟨nd, (e : Int), sz⟩ ⟨(s : Int), (q : Int)⟩)) (fun r _ => 8 - (intOf r).toNat)
  case atStart => exact ⟨0, by simp, by omega, by rw [Nat.zero_mul, Nat.add_zero, HSTART.out]; exact HG.out⟩
  case round =>
    clear HG
    obtain ⟨j, rfl, hlt2, HG⟩ := hrel
    obtain ⟨r, hr⟩ : ∃ r, r = q + j * e := ⟨_, rfl⟩
    have HJ := Lib.hid (show q + (j + 1) * e = r + e from by rw [Nat.succ_mul]; omega)
    have HNX := Lib.hid (plPut_next T e q s (k : Int) j he)
    have HFIN := Lib.hid (fun h => plPut_fin T e q s (k : Int) j R h hlt2)
    rw [← hr] at HNX HFIN HG hlt2 ⊢
    clear hr
    have p0 := HG.out.pl.c0
    obtain ⟨k0, k1⟩ := HG.out.bk.all
    have d1 := HG.out.d.all.2.1
    dsimp only at k0 k1 d1
    by_cases hlt : r < R
    · have hlt' : (r : Int) < (R : Int) := by omega
      have hr8 : (r : Int) < 8 := by omega
      have hs16 : (s : Int) < 16 := by omega
      have hfz := HG.out.pl.f
      have HG2 := Lib.hid (fun n => (HG.out.still (below_drewN' (Below.refl wr.heap.size wr) n)).cell (r := r) (s := s) (k : Int) (by omega) hs)
      rw [HNX.out] at HG2
      have HGD := Lib.hid (fun n => HG.out.still (below_drewN' (Below.refl wr.heap.size wr) n))
      go_upto_region 7 with fail
      have HD := Lib.hid (HG.out.still (Below.drew (Below.refl wr.heap.size wr)))
      refine wp_region_held_drew (S := fun w' => (w'.cell? ⟨w.heap.size, 0, none⟩ = some (Value.int .i64 (s : Int)))) (by kernel_rfl) (HD.out.bk.all.1) (fun hHeld => ?_)
      generalize wr.drew = w3 at HD hHeld ⊢
      refine wpAnyH_take (i := 0) (v := ?_) rfl (by kernel_rfl) (by kernel_rfl) (by kernel_rfl) (fun _ _ _ h => h) (Or.inl ⟨by rfl, ?_⟩) (by assumption) ?_
      rotate_left
      · (intro w hSw; (try dsimp only at hSw); go_simp; (try with_reducible rfl))
      try simp only [List.getElem_toArray, List.getElem_cons_succ, List.getElem_cons_zero, Act.put, List.setIfInBounds_toArray, List.set_cons_zero, List.set_cons_succ]
      refine wpAnyH_take (i := 1) (v := ?_) rfl (by kernel_rfl) (by kernel_rfl) (by kernel_rfl) (fun _ _ _ h => h) (Or.inl ⟨by rfl, ?_⟩) (by assumption) ?_
      rotate_left
      · (intro w hSw; (try dsimp only at hSw); go_simp; (try with_reducible rfl))
      try simp only [List.getElem_toArray, List.getElem_cons_succ, List.getElem_cons_zero, Act.put, List.setIfInBounds_toArray, List.set_cons_zero, List.set_cons_succ]
      refine wpAnyH_take (i := 2) (v := ?_) rfl (by kernel_rfl) (by kernel_rfl) (by kernel_rfl) (fun _ _ _ h => h) (Or.inl ⟨by rfl, ?_⟩) (by assumption) ?_
      rotate_left
      · (intro w hSw; (try dsimp only at hSw); go_simp; (try with_reducible rfl))
      try simp only [List.getElem_toArray, List.getElem_cons_succ, List.getElem_cons_zero, Act.put, List.setIfInBounds_toArray, List.set_cons_zero, List.set_cons_succ]
      refine wpAnyH_take (i := 3) (v := ?_) rfl (by kernel_rfl) (by kernel_rfl) (by kernel_rfl) (fun _ _ _ h => h) (Or.inl ⟨by rfl, ?_⟩) (by assumption) ?_
      rotate_left
      · (intro w hSw; (try dsimp only at hSw); go_simp; (try with_reducible rfl))
      try simp only [List.getElem_toArray, List.getElem_cons_succ, List.getElem_cons_zero, Act.put, List.setIfInBounds_toArray, List.set_cons_zero, List.set_cons_succ]
      refine wpAnyH_take (i := 4) (v := ?_) rfl (by kernel_rfl) (by kernel_rfl) (by kernel_rfl) (fun _ _ _ h => h) (Or.inl ⟨by rfl, ?_⟩) (by assumption) ?_
      rotate_left
      · (intro w hSw; (try dsimp only at hSw); go_simp; (try with_reducible rfl))
      try simp only [List.getElem_toArray, List.getElem_cons_succ, List.getElem_cons_zero, Act.put, List.setIfInBounds_toArray, List.set_cons_zero, List.set_cons_succ]
      refine wpAnyH_take (i := 5) (v := ?_) rfl (by kernel_rfl) (by kernel_rfl) (by kernel_rfl) (fun _ _ _ h => h) (Or.inl ⟨by rfl, ?_⟩) (by assumption) ?_
      rotate_left
      · (intro w hSw; (try dsimp only at hSw); go_simp; (try with_reducible rfl))
      try simp only [List.getElem_toArray, List.getElem_cons_succ, List.getElem_cons_zero, Act.put, List.setIfInBounds_toArray, List.set_cons_zero, List.set_cons_succ]
      refine wpAnyH_take (i := 6) (v := ?_) rfl (by kernel_rfl) (by kernel_rfl) (by kernel_rfl) (fun _ _ _ h => h) (Or.inl ⟨by rfl, ?_⟩) (by assumption) ?_
      rotate_left
      · (intro w hSw; (try dsimp only at hSw); go_simp; (try with_reducible rfl))
      try simp only [List.getElem_toArray, List.getElem_cons_succ, List.getElem_cons_zero, Act.put, List.setIfInBounds_toArray, List.set_cons_zero, List.set_cons_succ]
      refine wpAnyH_take (i := 7) (v := ?_) rfl (by kernel_rfl) (by kernel_rfl) (by kernel_rfl) (fun _ _ _ h => h) (Or.inl ⟨by rfl, ?_⟩) (by assumption) ?_
      rotate_left
      · (intro w hSw; (try dsimp only at hSw); go_simp; (try with_reducible rfl))
      try simp only [List.getElem_toArray, List.getElem_cons_succ, List.getElem_cons_zero, Act.put, List.setIfInBounds_toArray, List.set_cons_zero, List.set_cons_succ]
      refine wpAnyH_take (i := 8) (v := ?_) rfl (by kernel_rfl) (by kernel_rfl) (by kernel_rfl) (fun _ _ _ h => h) (Or.inl ⟨by rfl, ?_⟩) (by assumption) ?_
      rotate_left
      · (intro w hSw; (try dsimp only at hSw); go_simp; (try with_reducible rfl))
      try simp only [List.getElem_toArray, List.getElem_cons_succ, List.getElem_cons_zero, Act.put, List.setIfInBounds_toArray, List.set_cons_zero, List.set_cons_succ]
      have hfz3 := HD.out.pl.f
      have c3 := HD.out.pl.ct (r := r) (s := s) (by omega) hs
      have HG3 := HD.out.cell (r := r) (s := s) (k : Int) (by omega) hs
      rw [HNX.out] at HG3
      have HG3 := Lib.hid HG3
      refine wpAnyH_ready (rs := [9]) (by kernel_rfl) (by simp) (AllReadyH.cons rfl (fun K hK => ?_) AllReadyH.nil)
      go_simp
      refine hK.out _ _ ?_ (fun hHeld => ?_)
      · exact HG3.out.bk.all.1
      clear hK K
      try simp only [List.getElem_toArray, List.getElem_cons_succ, List.getElem_cons_zero, Act.put, List.setIfInBounds_toArray, List.set_cons_zero, List.set_cons_succ]
      refine wpAnyH_done (by kernel_rfl) ?_ _
      have d1 := HG3.out.d.all.2.1
      dsimp only at d1
      go_wp2
      go_roundw
      case rel => exact ⟨j + 1, by rw [HJ.out]; go_num, by rw [HJ.out]; omega, HG3.out⟩
      case measure => simp [intOf]; omega
    · have hge : ¬ (r : Int) < (R : Int) := by omega
      have HPl := Lib.hid HG.out.pl
      have HKP := Lib.hid HG.out.kp
      rw [HFIN.out (by omega)] at HPl
      have cm := HPl.out.cm
      have hn : t.length - k = (t.length - (k + 1)) + 1 := by omega
      have HM := Lib.hid HPl.out.map
      rw [hn] at HM
      have HNE := Lib.hid HPl.out.ne
      have HW2 := Lib.hid (waitF_next t k)
      go_wp2_with (at_delete; refine delD _ rfl _ _ rfl und_i64 Try.underlying85 _ _ _ rfl HM.out _ rfl ⟨by omega, by omega⟩ _ HWF.out ?_; intro w4 m4 g4; rw [HW2.out] at m4)
      go_ret
      refine ⟨rfl, ?_, HKP.out.trans (Kp.of_grown g4 (.inr rfl))⟩
      rw [HPUT.out]
      exact ⟨(g4.block p HPl.out.lt (fun e => by cases e; exact HNE.out rfl)).trans HPl.out.blk, m4, HNE.out⟩
end Go.Proofs.Ytbbodgeoenjdkaa
