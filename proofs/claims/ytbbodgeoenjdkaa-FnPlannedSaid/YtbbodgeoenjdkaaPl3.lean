/-
  Chapter 16: whether a booking is possible, by the program's planner.
-/
import Derived.Test.YtbbodgeoenjdkaaPl2
import Derived.BigQuiet
namespace Go.Proofs.Ytbbodgeoenjdkaa
open Go.RowKit

structure PsAt (w W : World) (p mb R S : Nat) (T : Tab) (t : List Dm) (k : Nat) (x : Dm) (b : Bk) : Prop where
  d : DmBk 38 W w.heap.size x
  bk : BkBk 31 W (w.heap.size + 1) b
  pl : PlAt W p mb R S T t k
  below : Below w.heap.size w W
theorem PsAt.start {w : World} {p mb R S k : Nat} {T : Tab} {t : List Dm} (h : PlAt w p mb R S T t k) (x : Dm) (b : Bk) : PsAt w ((w.alloc (.cells #[.int .i64 x.node, .int .i64 x.every, .int .i64 x.size] 38)).alloc (.cells #[.int .i64 b.slot, .int .i64 b.phase] 31)) p mb R S T t k x b := by
  have b1 : Below w.heap.size w (w.alloc (.cells #[.int .i64 x.node, .int .i64 x.every, .int .i64 x.size] 38)) := (Below.refl _ _).alloc (Nat.le_refl _) _
  have b2 := (Below.refl (w.alloc (.cells #[.int .i64 x.node, .int .i64 x.every, .int .i64 x.size] 38)).heap.size (w.alloc (.cells #[.int .i64 x.node, .int .i64 x.every, .int .i64 x.size] 38))).alloc (Nat.le_refl _) (.cells #[.int .i64 b.slot, .int .i64 b.phase] 31)
  have h2 := BkBk.new (T := 31) (x := b) (w.alloc (.cells #[.int .i64 x.node, .int .i64 x.every, .int .i64 x.size] 38))
  rw [World.size_alloc] at h2
  exact ⟨(DmBk.new w).below b2 (by simp), h2, (h.still b1).still b2, below_two b1 b2⟩
theorem PsAt.still {w W W' : World} {p mb R S k : Nat} {T : Tab} {t : List Dm} {x : Dm} {b : Bk} (h : PsAt w W p mb R S T t k x b) (hb : Below W.heap.size W W') : PsAt w W' p mb R S T t k x b :=
  ⟨h.d.below hb h.d.lt, h.bk.below hb h.bk.lt, h.pl.still hb, below_two h.below hb⟩
theorem plFits_no {T : Tab} {R S : Nat} {x : Dm} {b : Bk} (h : (R : Int) < x.every ∨ b.slot < 0 ∨ (S : Int) ≤ b.slot ∨ b.phase < 0 ∨ x.every ≤ b.phase) : plFits T R S x b = false := by
  cases h1 : plFits T R S x b with
  | false => rfl
  | true => have := plFits_phase h1; omega
set_option maxHeartbeats 2000000 in
set_option maxRecDepth 100000 in
set_option linter.unusedSimpArgs false in
theorem isPossible_any (p mb R S k : Nat) (T : Tab) (t : List Dm) (x : Dm) (b : Bk) (w : World) (h : PlAt w p mb R S T t k) (hx : isPow x.every = true) (hR : R ≤ 8) (hS : S ≤ 16) :
    Calls Try.prog 85 #[.pointer (some ⟨p, 0, none⟩), dmVal x, bkVal b] w fun e w' => e = .returned (.bool (plFits T R S x b)) ∧ Below w.heap.size w w' := by
  have HP := Lib.hid (PsAt.start h x b)
  clear h
  have hx2 := isPow_iff.1 hx
  have HX := Lib.hid hx; clear hx
  obtain ⟨nd, ev, sz⟩ := x
  obtain ⟨sl, ph⟩ := b
  unfold dmVal bkVal
  dsimp only at hx2 ⊢
  by_cases hc : (R : Int) < ev
  · have HE := Lib.hid (plFits_no (T := T) (R := R) (S := S) (x := ⟨nd, ev, sz⟩) (b := ⟨sl, ph⟩) (.inl hc))
    clear hx2
    go_enter Try.func85, Try.ntmps85
    go_upto_region 1 with fail
    generalize ((w.alloc (.cells #[.int .i64 nd, .int .i64 ev, .int .i64 sz] 38)).alloc (.cells #[.int .i64 sl, .int .i64 ph] 31)) = w1 at HP ⊢
    have d1 := HP.out.d.all.2.1
    obtain ⟨k0, k1⟩ := HP.out.bk.all
    have p0 := HP.out.pl.c0; have p1 := HP.out.pl.c1
    dsimp only at d1 k0 k1
    go_quiet (fail)
    go_wp2
    go_ret
    rw [HE.out]
    exact ⟨rfl, (HP.out.still (below_drewN' (Below.refl _ _) _)).below⟩
  have hn0 := hc; clear hc
  by_cases hc : sl < 0
  · have HE := Lib.hid (plFits_no (T := T) (R := R) (S := S) (x := ⟨nd, ev, sz⟩) (b := ⟨sl, ph⟩) (.inr (.inl hc)))
    clear hx2
    go_enter Try.func85, Try.ntmps85
    go_upto_region 1 with fail
    generalize ((w.alloc (.cells #[.int .i64 nd, .int .i64 ev, .int .i64 sz] 38)).alloc (.cells #[.int .i64 sl, .int .i64 ph] 31)) = w1 at HP ⊢
    have d1 := HP.out.d.all.2.1
    obtain ⟨k0, k1⟩ := HP.out.bk.all
    have p0 := HP.out.pl.c0; have p1 := HP.out.pl.c1
    dsimp only at d1 k0 k1
    go_quiet (fail)
    go_wp2
    go_ret
    rw [HE.out]
    exact ⟨rfl, (HP.out.still (below_drewN' (Below.refl _ _) _)).below⟩
  have hn1 := hc; clear hc
  by_cases hc : (S : Int) ≤ sl
  · have HE := Lib.hid (plFits_no (T := T) (R := R) (S := S) (x := ⟨nd, ev, sz⟩) (b := ⟨sl, ph⟩) (.inr (.inr (.inl hc))))
    clear hx2
    go_enter Try.func85, Try.ntmps85
    go_upto_region 1 with fail
    generalize ((w.alloc (.cells #[.int .i64 nd, .int .i64 ev, .int .i64 sz] 38)).alloc (.cells #[.int .i64 sl, .int .i64 ph] 31)) = w1 at HP ⊢
    have d1 := HP.out.d.all.2.1
    obtain ⟨k0, k1⟩ := HP.out.bk.all
    have p0 := HP.out.pl.c0; have p1 := HP.out.pl.c1
    dsimp only at d1 k0 k1
    go_quiet (fail)
    go_wp2
    go_ret
    rw [HE.out]
    exact ⟨rfl, (HP.out.still (below_drewN' (Below.refl _ _) _)).below⟩
  have hn2 := hc; clear hc
  by_cases hc : ph < 0
  · have HE := Lib.hid (plFits_no (T := T) (R := R) (S := S) (x := ⟨nd, ev, sz⟩) (b := ⟨sl, ph⟩) (.inr (.inr (.inr (.inl hc)))))
    clear hx2
    go_enter Try.func85, Try.ntmps85
    go_upto_region 1 with fail
    generalize ((w.alloc (.cells #[.int .i64 nd, .int .i64 ev, .int .i64 sz] 38)).alloc (.cells #[.int .i64 sl, .int .i64 ph] 31)) = w1 at HP ⊢
    have d1 := HP.out.d.all.2.1
    obtain ⟨k0, k1⟩ := HP.out.bk.all
    have p0 := HP.out.pl.c0; have p1 := HP.out.pl.c1
    dsimp only at d1 k0 k1
    go_quiet (fail)
    go_wp2
    go_ret
    rw [HE.out]
    exact ⟨rfl, (HP.out.still (below_drewN' (Below.refl _ _) _)).below⟩
  have hn3 := hc; clear hc
  by_cases hc : ev ≤ ph
  · have HE := Lib.hid (plFits_no (T := T) (R := R) (S := S) (x := ⟨nd, ev, sz⟩) (b := ⟨sl, ph⟩) (.inr (.inr (.inr (.inr hc)))))
    clear hx2
    go_enter Try.func85, Try.ntmps85
    go_upto_region 1 with fail
    generalize ((w.alloc (.cells #[.int .i64 nd, .int .i64 ev, .int .i64 sz] 38)).alloc (.cells #[.int .i64 sl, .int .i64 ph] 31)) = w1 at HP ⊢
    have d1 := HP.out.d.all.2.1
    obtain ⟨k0, k1⟩ := HP.out.bk.all
    have p0 := HP.out.pl.c0; have p1 := HP.out.pl.c1
    dsimp only at d1 k0 k1
    go_quiet (fail)
    go_wp2
    go_ret
    rw [HE.out]
    exact ⟨rfl, (HP.out.still (below_drewN' (Below.refl _ _) _)).below⟩
  have hn4 := hc; clear hc
  obtain ⟨s, rfl⟩ : ∃ s : Nat, sl = (s : Int) := ⟨sl.toNat, by omega⟩
  obtain ⟨q, rfl⟩ : ∃ q : Nat, ph = (q : Int) := ⟨ph.toNat, by omega⟩
  obtain ⟨e, rfl⟩ : ∃ e : Nat, ev = (e : Int) := ⟨ev.toNat, by omega⟩
  have he : 0 < e := by omega
  have hs : s < S := by omega
  have hq : q < e := by omega
  have heR : e ≤ R := by omega
  have HE := Lib.hid (show plFits T R S ⟨nd, (e : Int), sz⟩ ⟨(s : Int), (q : Int)⟩ = plFree T e q s R from by
    unfold plFits inRange
    have a1 : ((s : Int)) ≤ (S : Int) - 1 := by omega
    have a2 : ((q : Int)) ≤ (e : Int) - 1 := by omega
    have a3 : (e : Int) ≤ (R : Int) := by omega
    have a4 : (0 : Int) ≤ (s : Int) := by omega
    have a5 : (0 : Int) ≤ (q : Int) := by omega
    simp [a1, a2, a3])
  clear hx2
  go_enter Try.func85, Try.ntmps85
  go_upto_region 1 with fail
  generalize ((w.alloc (.cells #[.int .i64 nd, .int .i64 (e : Int), .int .i64 sz] 38)).alloc (.cells #[.int .i64 (s : Int), .int .i64 (q : Int)] 31)) = w1 at HP ⊢
  have d1 := HP.out.d.all.2.1
  obtain ⟨k0, k1⟩ := HP.out.bk.all
  have p0 := HP.out.pl.c0; have p1 := HP.out.pl.c1
  dsimp only at d1 k0 k1
  go_quiet (fail)
  go_wp2
  have HB1 := Lib.hid (show Below w1.heap.size w1 (w1.drewN nq) from below_drewN' (Below.refl _ _) _)
  clear d1 k0 k1 p0 p1 hn0 hn1 hn2 hn3 hn4
  go_loopw [7] (fun r wr => ∃ j : Nat, r = .int .i64 ((q + j * e : Nat) : Int) ∧ Hid (plFree T e q s (q + j * e) = true) ∧ Hid (Below w1.heap.size w1 wr)) (fun r _ => 8 - (intOf r).toNat)
  case atStart => exact ⟨0, by simp, by rw [Nat.zero_mul, Nat.add_zero]; exact plFree_start T e q s, HB1.out⟩
  case round =>
    clear HB1
    obtain ⟨j, rfl, HF, HB⟩ := hrel
    have HPr := Lib.hid (HP.out.still HB.out)
    obtain ⟨r, hr⟩ : ∃ r, r = q + j * e := ⟨_, rfl⟩
    have HNX := Lib.hid (fun hv (hn : R ≤ q + (j + 1) * e) => plFree_next (n := R) HF.out hv hn)
    have HNY := Lib.hid (fun hv => plFree_next (n := q + (j + 1) * e) HF.out hv (Nat.le_refl _))
    have HNO := Lib.hid (fun hv (hn : q + j * e < R) => plFree_not (T := T) (e := e) (p := q) (s := s) (j := j) (n := R) hv hn)
    have HJ := Lib.hid (show q + (j + 1) * e = r + e from by rw [Nat.succ_mul]; omega)
    have HLE := Lib.hid (fun hn => plFree_le (m := R) HF.out hn)
    rw [← hr] at HNO HLE HNX HNY ⊢
    clear HF
    have d1 := HPr.out.d.all.2.1
    obtain ⟨k0, k1⟩ := HPr.out.bk.all
    have p0 := HPr.out.pl.c0
    dsimp only at d1 k0 k1
    by_cases hlt : r < R
    · have c0 := HPr.out.pl.ct (r := r) (s := s) (by omega) (by omega)
      have hlt' : (r : Int) < (R : Int) := by omega
      have hr8 : (r : Int) < 8 := by omega
      have hs16 : (s : Int) < 16 := by omega
      obtain ⟨v, hv⟩ : ∃ v, v = T r s := ⟨_, rfl⟩
      rw [← hv] at c0
      by_cases hc : v = -1
      · have hne : (v != -1) = false := by simp [hc]
        have HD := Lib.hid (HNY.out (by rw [← hv]; exact hc))
        have HBE := Lib.hid (fun n => below_two HB.out (below_drewN' (Below.refl wr.heap.size wr) n))
        clear hr hc hv
        go_wp2
        go_quiet (fail)
        go_wp2
        go_roundw
        case rel => exact ⟨j + 1, by rw [HJ.out]; go_num, HD, HBE.out _⟩
        case measure => simp [intOf]; omega
      · have hne : (v != -1) = true := by simpa using hc
        have HD := Lib.hid (HNO.out (by rw [← hv]; exact hc) hlt)
        have HBE := Lib.hid (fun n => (HPr.out.still (below_drewN' (Below.refl wr.heap.size wr) n)).below)
        clear hr hc hv
        go_wp2
        go_quiet (fail)
        go_wp2
        go_ret
        rw [HE.out, HD.out]
        exact ⟨rfl, HBE.out _⟩
    · have hge : ¬ (r : Int) < (R : Int) := by omega
      have HD := Lib.hid (HLE.out (by omega))
      clear hr
      go_wp2
      go_ret
      rw [HE.out, HD.out]
      exact ⟨rfl, HPr.out.below⟩
end Go.Proofs.Ytbbodgeoenjdkaa
