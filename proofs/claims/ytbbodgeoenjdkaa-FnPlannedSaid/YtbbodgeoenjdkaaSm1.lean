/-
  slices.SortStableFunc of demands: the comparison, rows in memory, ranges exchanged.
-/
import Derived.Test.YtbbodgeoenjdkaaSm0
import Derived.Test.YtbbodgeoenjdkaaPlD
import Derived.Test.YtbbodgeoenjdkaaIn
import Derived.Test.YtbbodgeoenjdkaaCmp
import Derived.Deep.RegionHeld3
import Derived.Deep.DeepCutAuto
import Derived.BigQuiet
import Derived.BigRegion
import Derived.Handy
namespace Go.Proofs.Ytbbodgeoenjdkaa
open Go.RowKit

set_option maxRecDepth 100000 in
theorem before_any (x y : Dm) (w : World) : Calls Try.prog 57 #[dmVal x, dmVal y] w fun e w' => e = .returned (.int .i64 (cmpI x.every y.every)) ∧ Below w.heap.size w w' := by
  have HB := Lib.hid (show Below w.heap.size w ((w.alloc (.cells #[.int .i64 x.node, .int .i64 x.every, .int .i64 x.size] 38)).alloc (.cells #[.int .i64 y.node, .int .i64 y.every, .int .i64 y.size] 38)) from below_two ((Below.refl _ _).alloc (Nat.le_refl _) _) ((Below.refl _ _).alloc (Nat.le_refl _) _))
  have h1 := (DmBk.new (T := 38) (x := x) w)
  have h2 := (DmBk.new (T := 38) (x := y) (w.alloc (.cells #[.int .i64 x.node, .int .i64 x.every, .int .i64 x.size] 38)))
  have h3 := Lib.hid (h1.below ((Below.refl (w.alloc (.cells #[.int .i64 x.node, .int .i64 x.every, .int .i64 x.size] 38)).heap.size _).alloc (Nat.le_refl _) (.cells #[.int .i64 y.node, .int .i64 y.every, .int .i64 y.size] 38)) h1.lt)
  have h4 := Lib.hid h2
  have HC := Lib.hid (fun W => compare_any x.every y.every W)
  clear h1 h2
  unfold dmVal
  go_enter Try.func57, Try.ntmps57
  go_upto_region 1 with fail
  rw [show (w.alloc (.cells #[.int .i64 x.node, .int .i64 x.every, .int .i64 x.size] 38)).heap.size = w.heap.size + 1 from by simp] at h4
  generalize (w.alloc (.cells #[.int .i64 x.node, .int .i64 x.every, .int .i64 x.size] 38)).alloc (.cells #[.int .i64 y.node, .int .i64 y.every, .int .i64 y.size] 38) = w1 at h3 h4 HB ⊢
  have q1 := h3.out.all.2.1
  have q2 := h4.out.all.2.1
  go_wp2_with fail
  refine (HC.out _).mono ?_
  rintro e w2 ⟨rfl, rfl⟩
  go_wp2
  go_ret
  exact ⟨rfl, HB.out⟩
theorem cmpI_neg {a b : Int} : cmpI a b < 0 ↔ a < b := by 
  unfold cmpI
  split
  · omega
  · split <;> omega
/-- A row of demands of the call's own while it is sorted. -/
structure SoAt (w0 w : World) (base g N cap : Nat) (f : Nat → Dm) : Prop where
  own : OwnDm 38 w base (.slice (some ⟨g, 0, none⟩) N cap) (mkF f N)
  kp : w0.grownBy w (some g)
theorem SoAt.still {w0 w w' : World} {base g N cap : Nat} {f : Nat → Dm} (h : SoAt w0 w base g N cap f) (hb : Below w.heap.size w w') : SoAt w0 w' base g N cap f := ⟨h.own.below hb, grown_trans h.kp ⟨hb.os, hb.tape, hb.output, hb.size, fun k hk _ => hb.block k hk⟩⟩
theorem SoAt.in_ {w0 w : World} {base g N cap i : Nat} {f : Nat → Dm} (h : SoAt w0 w base g N cap f) (hi : i < N) : DmIn w g (i * 3) (f i) := by
  have := h.own.in_ (mkF_len f N) hi
  rwa [show dmOf (mkF f N) i = f i from mkF_getD f hi _] at this
theorem SoAt.store {w0 w : World} {base g N cap i : Nat} {f : Nat → Dm} (h : SoAt w0 w base g N cap f) (hi : i < N) (x : Dm) : SoAt w0 (setDm w g (i * 3) x) base g N cap (updF f i x) := by
  obtain ⟨-, -, o, -⟩ := h.own.store (mkF_len f N) hi x
  rw [mkF_set] at o
  refine ⟨o, grown_trans h.kp ?_⟩
  have s : ∀ (w : World) (j : Nat) (v : Value), w.grownBy (w.setCell ⟨g, j, none⟩ v) (some g) := fun w j v => ⟨rfl, rfl, rfl, by simp [World.setCell], fun k _ hne => heap_setCell_other _ _ _ _ (fun e => hne (by rw [e]))⟩
  exact grown_trans (grown_trans (s _ _ _) (s _ _ _)) (s _ _ _)
theorem SoAt.fz {w0 w : World} {base g N cap : Nat} {f : Nat → Dm} (h : SoAt w0 w base g N cap f) (j : Nat) : w.frozen? ⟨g, j, none⟩ = false := h.own.fz (mkF_len f N) j
theorem SoAt.swap {w0 w : World} {base g N cap i j : Nat} {f : Nat → Dm} (h : SoAt w0 w base g N cap f) (hi : i < N) (hj : j < N) : SoAt w0 (setDm (setDm w g (i * 3) (f j)) g (j * 3) (f i)) base g N cap (swp f i j) := (h.store hi (f j)).store hj (f i)
set_option maxRecDepth 100000 in
set_option maxHeartbeats 4000000 in
set_option linter.unusedSimpArgs false in
theorem swapRange_any (w0 w : World) (base g N cap : Nat) (f : Nat → Dm) (h : SoAt w0 w base g N cap f) (hN : N ≤ 1048576) (p q n : Nat) (h1 : p + n ≤ q) (h2 : q + n ≤ N) (c : Value) :
    Calls Try.prog 89 #[.slice (some ⟨g, 0, none⟩) N cap, .int .i64 (p : Int), .int .i64 (q : Int), .int .i64 (n : Int), c] w fun e w' => e = .returned (.tuple #[]) ∧ SoAt w0 w' base g N cap (swR f p q n) := by
  have H := Lib.hid h; clear h
  go_enter Try.func89, Try.ntmps89
  go_wp2
  go_loopw [10] (fun i wr => ∃ k : Nat, i = .int .i64 (k : Int) ∧ k ≤ n ∧ Hid (SoAt w0 wr base g N cap (swR f p q k))) (fun i _ => n - (intOf i).toNat)
  case atStart => exact ⟨0, rfl, Nat.zero_le _, by rw [swR_zero]; exact H.out⟩
  case round =>
    clear H
    obtain ⟨k, rfl, hk, H⟩ := hrel
    by_cases hlt : k < n
    · have HN := Lib.hid (H.out.swap (i := p + k) (j := q + k) (by omega) (by omega))
      rw [swR_next f (by omega)] at HN
      have i1 := H.out.in_ (i := p + k) (by omega)
      have i2 := H.out.in_ (i := q + k) (by omega)
      have hfz := H.out.fz
      generalize swR f p q k (p + k) = x at HN i1
      generalize swR f p q k (q + k) = y at HN i2
      obtain ⟨a1, a2, a3⟩ := i1
      obtain ⟨b1, b2, b3⟩ := i2
      have e1 : (p : Int) + (k : Int) = ((p + k : Nat) : Int) := by omega
      have e2 : (q : Int) + (k : Int) = ((q + k : Nat) : Int) := by omega
      have l1 : p + k < N := by omega
      have l2 : q + k < N := by omega
      have l3 : p + k < q + k := by omega
      have w1 : IntKind.i64.wrap ((p : Int) + (k : Int)) = ((p + k : Nat) : Int) := by rw [IntKind.wrap_i64]; omega
      have w2 : IntKind.i64.wrap ((q : Int) + (k : Int)) = ((q + k : Nat) : Int) := by rw [IntKind.wrap_i64]; omega
      generalize hP : p + k = P at *
      generalize hQ : q + k = Q at *
      clear hP hQ
      go_wp2
      go_region
      go_wp2
      go_roundw
      case rel => exact ⟨k + 1, by go_num, by omega, HN.out.still (Below.drew (Below.refl _ _))⟩
      case measure => simp [intOf]; omega
    · have hkn : k = n := by omega
      subst hkn
      go_wp2
      go_end0
      exact ⟨rfl, H.out⟩
end Go.Proofs.Ytbbodgeoenjdkaa
