/-
  Chapter 4: spec.DrawStateDistance.
-/
import Derived.Test.YtenlfonekcpblaaC4j
import Derived.Test.YtenlfonekcpblaaDrawC
import Derived.Deep.RegionHeld3
import Derived.Deep.RegionWith
namespace Go.Proofs.Ytenlfonekcpblaa
open Go.RowKit

/-- What a draw of two states leaves. -/
def DrawnTwo (w : World) (e : Ending) (w' : World) : Prop :=
  ∃ t m r s k t' m' r' s' k' : Int, e = .returned (.tuple #[.agg #[.int .i64 t, .int .i64 m, .int .i64 r, .int .i64 s, .int .i64 k], .agg #[.int .i64 t', .int .i64 m', .int .i64 r', .int .i64 s', .int .i64 k']]) ∧ Below w.heap.size w w'
theorem below_cell (D i : Nat) (q : Int) (w : World) : Below D w (w.setCell ⟨D, i, none⟩ (.int .i64 q)) := (Below.refl D w).setCell (p := ⟨D, i, none⟩) (Nat.le_refl _) _
theorem HeldS.stillB {E T : Nat} {w0 w w' : World} {p B : Nat} (h : HeldS E T w0 w p []) (b : Below B w w') (hp : p < B) : HeldS E T w0 w' p [] :=
  ⟨h.below.trans (b.mono (by have := h.lo; omega)), h.lo, h.src.belowB b hp, (fun _ h => by cases h), List.Pairwise.nil⟩
theorem StateAt.drew {T b : Nat} {w : World} {t m r s k : Int} (h : StateAt T w b t m r s k) : StateAt T w.drew b t m r s k := h
theorem StateAt.far5 {T b c : Nat} {w : World} {t m r s k : Int} (h : StateAt T w c t m r s k) (hne : c ≠ b) (t' m' r' s' k' : Int) : StateAt T (setFive w b t' m' r' s' k') c t m r s k :=
  ((((h.other (c := b) hne).other (c := b) hne).other (c := b) hne).other (c := b) hne).other (c := b) hne

set_option maxRecDepth 100000 in
set_option maxHeartbeats 2000000 in
theorem drawStateDistance_any (ao : Option Addr) (n cap : Nat) (cs : List Int) (w : World) (hr : RdB w w.heap.size ao n cs) (hn : n ≤ 1048576) :
    Calls Try.prog 16 #[.slice ao n cap] w (DrawnTwo w) := by
  have hb0 : Below w.heap.size w ((w.alloc (.cells #[.int .i64 0, .int .i64 0, .int .i64 0, .int .i64 0, .int .i64 0] 25)).alloc (.cells #[.int .i64 0, .int .i64 0, .int .i64 0, .int .i64 0, .int .i64 0] 25)) := ((Below.refl _ _).alloc (Nat.le_refl _) _).alloc (by simp) _
  have hr0 := rdB_grow hr hb0
  obtain ⟨z1, z2⟩ := state_new2 (Below.refl ((w.alloc (.cells #[.int .i64 0, .int .i64 0, .int .i64 0, .int .i64 0, .int .i64 0] 25)).alloc (.cells #[.int .i64 0, .int .i64 0, .int .i64 0, .int .i64 0, .int .i64 0] 25)).heap.size ((w.alloc (.cells #[.int .i64 0, .int .i64 0, .int .i64 0, .int .i64 0, .int .i64 0] 25)).alloc (.cells #[.int .i64 0, .int .i64 0, .int .i64 0, .int .i64 0, .int .i64 0] 25)))
  have hsz : ((w.alloc (.cells #[.int .i64 0, .int .i64 0, .int .i64 0, .int .i64 0, .int .i64 0] 25)).alloc (.cells #[.int .i64 0, .int .i64 0, .int .i64 0, .int .i64 0, .int .i64 0] 25)).heap.size = w.heap.size + 2 := by simp
  have HB := Lib.hid hb0; clear hb0
  have HR := Lib.hid hr0; clear hr0 hr
  have Z1 := Lib.hid z1; clear z1
  have Z2 := Lib.hid z2; clear z2
  have HSZ := Lib.hid hsz; clear hsz
  go_enter Try.func16, Try.ntmps16
  go_wp2_with fail
  generalize ((w.alloc (.cells #[.int .i64 0, .int .i64 0, .int .i64 0, .int .i64 0, .int .i64 0] 25)).alloc (.cells #[.int .i64 0, .int .i64 0, .int .i64 0, .int .i64 0, .int .i64 0] 25)) = w0 at HB HR Z1 Z2 HSZ ⊢
  refine (from_any _ _ _ cs _ HR.out hn).mono ?_
  rintro e w1 ⟨p, rfl, hlo, hs1, hb1⟩
  have H1 : Hid (HeldS 2 64 w0 w1 p []) := HeldS.start hb1 hlo hs1
  clear hlo hs1 hb1
  go_wp2_with fail
  refine (l04DrawAny_any _ _ H1.out.src).mono ?_
  rintro e w2 ⟨a, b, c, d, f, rfl, hs2, g2⟩
  have H2 := Lib.hid (H1.out.next hs2 g2)
  clear hs2 g2 H1
  go_wp2_with fail
  have HA := Lib.hid (Below.alloc (Below.refl w2.heap.size w2) (Nat.le_refl _) (.cells #[.int .i64 a, .int .i64 b, .int .i64 c, .int .i64 d, .int .i64 f] 25))
  have hpl := H2.out.src.lt
  refine (next_any _ _ _ (H2.out.still HA.out).src (by omega)).mono ?_
  rintro e w3 ⟨y, rfl, -, -, -, hs3, g3⟩
  have C3 := Lib.hid ((StateAt.new (T := 25) (t := a) (m := b) (r := c) (s := d) (k := f) w2).grown g3 (by simp; omega))
  have H3 := Lib.hid ((H2.out.still HA.out).next hs3 g3)
  have hw02 := H2.out.below.size
  have hsz := HSZ.out
  obtain ⟨C, hC⟩ : ∃ C, C = w2.heap.size := ⟨_, rfl⟩
  rw [← hC] at C3 hpl hw02 ⊢
  have hCR1 : C ≠ w.heap.size := by omega
  have hCR2 : C ≠ w.heap.size + 1 := by omega
  have hCp : some C ≠ some p := by simp; omega
  clear hC hs3 g3 HA H2 hpl hw02 hsz
  by_cases h0 : y = 0
  · subst h0
    go_upto_region 4 with fail
    have D3 := Lib.hid (show StateAt 25 w3.drew C a b c d f from C3.out)
    have H4 := Lib.hid (H3.out.still (Below.refl w3.heap.size w3).drew)
    clear C3 H3
    go_region_held3 (fun w' => w'.cell? ⟨C, 0, none⟩ = some (.int .i64 a) ∧ w'.cell? ⟨C, 1, none⟩ = some (.int .i64 b) ∧ w'.cell? ⟨C, 2, none⟩ = some (.int .i64 c) ∧ w'.cell? ⟨C, 3, none⟩ = some (.int .i64 d) ∧ w'.cell? ⟨C, 4, none⟩ = some (.int .i64 f))
      (first | with_reducible exact ⟨D3.out.c0, D3.out.c1, D3.out.c2, D3.out.c3, D3.out.c4⟩ | with_reducible exact ⟨D5.out.c0, D5.out.c1, D5.out.c2, D5.out.c3, D5.out.c4⟩ | with_reducible exact ⟨X1.out.c0, X1.out.c1, X1.out.c2, X1.out.c3, X1.out.c4⟩ | with_reducible exact ⟨X2.out.c0, X2.out.c1, X2.out.c2, X2.out.c3, X2.out.c4⟩)
      (first
        | (go_at_call 33; (with_reducible refine (l04DrawAny_any p _ H4.out.src).mono ?_); rintro e w5 ⟨a', b', c', d', f', rfl, hs5, g5⟩; have H5 := Lib.hid (H4.out.next hs5 g5); have D5 := Lib.hid (D3.out.grown g5 hCp); have q1 := StateAt.below Z1.out H5.out.below Z1.out.lt; have q2 := StateAt.below Z2.out H5.out.below Z2.out.lt; have hne : w.heap.size + 1 ≠ w.heap.size := (by omega); have q3 : StateAt 25 (((((w5.setCell ⟨w.heap.size, 0, none⟩ (.int .i64 a)).setCell ⟨w.heap.size, 1, none⟩ (.int .i64 b)).setCell ⟨w.heap.size, 2, none⟩ (.int .i64 c)).setCell ⟨w.heap.size, 3, none⟩ (.int .i64 d)).setCell ⟨w.heap.size, 4, none⟩ (.int .i64 f)) (w.heap.size + 1) 0 0 0 0 0 := StateAt.far5 q2 hne a b c d f; have X1 : Hid (StateAt 25 (((((w5.setCell ⟨w.heap.size, 0, none⟩ (.int .i64 a)).setCell ⟨w.heap.size, 1, none⟩ (.int .i64 b)).setCell ⟨w.heap.size, 2, none⟩ (.int .i64 c)).setCell ⟨w.heap.size, 3, none⟩ (.int .i64 d)).setCell ⟨w.heap.size, 4, none⟩ (.int .i64 f)) C a b c d f) := StateAt.far5 D5.out hCR1 a b c d f; have X2 : Hid (StateAt 25 ((((((((((w5.setCell ⟨w.heap.size, 0, none⟩ (.int .i64 a)).setCell ⟨w.heap.size, 1, none⟩ (.int .i64 b)).setCell ⟨w.heap.size, 2, none⟩ (.int .i64 c)).setCell ⟨w.heap.size, 3, none⟩ (.int .i64 d)).setCell ⟨w.heap.size, 4, none⟩ (.int .i64 f)).setCell ⟨w.heap.size + 1, 0, none⟩ (.int .i64 a')).setCell ⟨w.heap.size + 1, 1, none⟩ (.int .i64 b')).setCell ⟨w.heap.size + 1, 2, none⟩ (.int .i64 c')).setCell ⟨w.heap.size + 1, 3, none⟩ (.int .i64 d')).setCell ⟨w.heap.size + 1, 4, none⟩ (.int .i64 f')) C a b c d f) := StateAt.far5 X1.out hCR2 a' b' c' d' f'; have F1 := Lib.hid (StateAt.far5 (StateAt.five q1 a b c d f) hne.symm a' b' c' d' f'); have F2 := Lib.hid (StateAt.five q3 a' b' c' d' f'); have r0 := q1.c0; have r1 := q1.c1; have r2 := q1.c2; have r3 := q1.c3; have r4 := q1.c4; have u0 := q1.f 0; have u1 := q1.f 1; have u2 := q1.f 2; have u3 := q1.f 3; have u4 := q1.f 4; have s0 := q3.c0; have s1 := q3.c1; have s2 := q3.c2; have s3 := q3.c3; have s4 := q3.c4; have v0 := q3.f 0; have v1 := q3.f 1; have v2 := q3.f 2; have v3 := q3.f 3; have v4 := q3.f 4; clear hs5 g5 q1 q2 q3 hne))
    clear r0 r1 r2 r3 r4 u0 u1 u2 u3 u4 s0 s1 s2 s3 s4 v0 v1 v2 v3 v4 X1 X2 D3 D5 H4
    go_wp2_with fail
    change bodyPost _ _ _ _ _ (setFive (setFive w5 w.heap.size a b c d f) (w.heap.size + 1) a' b' c' d' f')
    have BF : Below w.heap.size w (setFive (setFive w5 w.heap.size a b c d f) (w.heap.size + 1) a' b' c' d' f') := below_two' (below_two' (below_two HB.out H5.out.below) (below_five (Nat.le_refl _) a b c d f)) (below_five (by omega) a' b' c' d' f')
    have f1 := F1.out
    have f2 : StateAt 25 (setFive (setFive w5 w.heap.size a b c d f) (w.heap.size + 1) a' b' c' d' f') (w.heap.size + 1) a' b' c' d' f' := F2.out
    generalize setFive (setFive w5 w.heap.size a b c d f) (w.heap.size + 1) a' b' c' d' f' = wz at f1 f2 BF ⊢
    have e0 := f1.c0
    have e1 := f1.c1
    have e2 := f1.c2
    have e3 := f1.c3
    have e4 := f1.c4
    have e5 := f2.c0
    have e6 := f2.c1
    have e7 := f2.c2
    have e8 := f2.c3
    have e9 := f2.c4
    exact bodyPost_ret (v := .tuple #[.agg #[.int .i64 a, .int .i64 b, .int .i64 c, .int .i64 d, .int .i64 f], .agg #[.int .i64 a', .int .i64 b', .int .i64 c', .int .i64 d', .int .i64 f']]) (by simp [results, Try.results16, go_sem, e0, e1, e2, e3, e4, e5, e6, e7, e8, e9]) rfl ⟨_, _, _, _, _, _, _, _, _, _, rfl, BF⟩
  · have t0 : (y == 0) = false := by simp [h0]
    clear h0
    have c0 := C3.out.c0
    have c1 := C3.out.c1
    have c2 := C3.out.c2
    have c3 := C3.out.c3
    have c4 := C3.out.c4
    go_upto_region 6 with fail
    clear c0 c1 c2 c3 c4 t0
    have HA := Lib.hid (Below.alloc (Below.refl w3.heap.size w3) (Nat.le_refl _) (.cells #[.int .i64 a, .int .i64 b, .int .i64 c, .int .i64 d, .int .i64 f] 25))
    have D4 := Lib.hid (StateAt.new (T := 25) (t := a) (m := b) (r := c) (s := d) (k := f) w3)
    have C4 := Lib.hid (C3.out.below HA.out C3.out.lt)
    have H4 := Lib.hid (H3.out.still HA.out)
    have hlt3 := H3.out.src.lt
    have hlc3 := C3.out.lt
    obtain ⟨D, hD⟩ : ∃ D, D = w3.heap.size := ⟨_, rfl⟩
    rw [← hD] at D4 hlt3 hlc3 ⊢
    have hDC : D ≠ C := by omega
    have hDp : some D ≠ some p := by simp; omega
    have hw03 := H3.out.below.size
    have hsz := HSZ.out
    have hDR1 : D ≠ w.heap.size := by omega
    have hpD : p < D := by omega
    have hDR2 : D ≠ w.heap.size + 1 := by omega
    clear hsz hw03 hD C3 H3 HA
    generalize w3.alloc (.cells #[.int .i64 a, .int .i64 b, .int .i64 c, .int .i64 d, .int .i64 f] 25) = w4 at D4 C4 H4 ⊢
    have d4 := D4.out.c4
    have hsrc := H4.out.src
    go_region_with (first
      | (go_at_call 34; refine (next_any p 16 _ (hsrc.below (by go_grown)) (by omega)).mono ?_; rintro e w5 ⟨x, rfl, -, -, -, hs5, g5⟩; have G5 := grown_trans (grown_of_below (w := w4) (g := some p) (by go_grown)) g5; have D5 := Lib.hid (D4.out.grown G5 hDp); have C5 := Lib.hid (C4.out.grown G5 hCp); have H5 := Lib.hid (H4.out.next hs5 G5); have d4' := D5.out.c4; have f4 := D5.out.f 4; clear hs5 g5 G5))
    all_goals
      clear d4 d4' f4 hsrc D4 C4 H4
      obtain ⟨q, hq⟩ : ∃ q, bits .xor .i64 f x = q := ⟨_, rfl⟩
      rw [hq]
      clear hq
      have D6 := Lib.hid (D5.out.set4 q)
      have C6 := Lib.hid (C5.out.other (c := D) (i := 4) (v := .int .i64 q) hDC.symm)
      have H6 := Lib.hid (H5.out.stillB (below_cell D 4 q w5) hpD)
      generalize w5.setCell ⟨D, 4, none⟩ (.int .i64 q) = w6 at D6 C6 H6 ⊢
      clear D5 C5 H5
      have d0 := D6.out.c0
      have hsrc := H6.out.src
      go_wp2_with fail
      go_region_with (first
        | (go_at_call 34; refine (next_any p 3 _ (hsrc.below (by go_grown)) (by omega)).mono ?_; rintro e w7 ⟨x7, rfl, x0, x1, -, hs7, g7⟩; have G7 := grown_trans (grown_of_below (w := w6) (g := some p) (by go_grown)) g7; have D7 := Lib.hid (D6.out.grown G7 hDp); have C7 := Lib.hid (C6.out.grown G7 hCp); have H7 := Lib.hid (H6.out.next hs7 G7); have d0' := D7.out.c0; have f0 := D7.out.f 0; replace x1 := x1 (by omega); clear hs7 g7 G7))
    all_goals
      clear d0 d0' f0 hsrc D6 C6 H6
      obtain ⟨V, hV⟩ : ∃ V, (IntKind.i64.wrap (a + x7)).tmod 65536 = V := ⟨_, rfl⟩
      rw [hV]
      clear hV
      have D8 := D7.out.set0 V
      have C8 := C7.out.other (c := D) (i := 0) (v := .int .i64 V) hDC.symm
      have H8 := H7.out.stillB (below_cell D 0 V w7) hpD
      generalize w7.setCell ⟨D, 0, none⟩ (.int .i64 V) = w8 at D8 C8 H8 ⊢
      clear D7 C7 H7
      have hw := HSZ.out
      have q1 := StateAt.below Z1.out H8.below Z1.out.lt
      have q2 := StateAt.below Z2.out H8.below Z2.out.lt
      have hne : w.heap.size + 1 ≠ w.heap.size := by omega
      have Cd : Hid (StateAt 25 w8.drew C a b c d f) := C8.drew
      have Dd : Hid (StateAt 25 w8.drew D V b c d q) := D8.drew
      have X1p : Hid (StateAt 25 (((((w8.setCell ⟨w.heap.size, 0, none⟩ (.int .i64 a)).setCell ⟨w.heap.size, 1, none⟩ (.int .i64 b)).setCell ⟨w.heap.size, 2, none⟩ (.int .i64 c)).setCell ⟨w.heap.size, 3, none⟩ (.int .i64 d)).setCell ⟨w.heap.size, 4, none⟩ (.int .i64 f)) C a b c d f) := StateAt.far5 C8 hCR1 a b c d f
      have X1a : Hid (StateAt 25 (((((w8.setCell ⟨w.heap.size, 0, none⟩ (.int .i64 a)).setCell ⟨w.heap.size, 1, none⟩ (.int .i64 b)).setCell ⟨w.heap.size, 2, none⟩ (.int .i64 c)).setCell ⟨w.heap.size, 3, none⟩ (.int .i64 d)).setCell ⟨w.heap.size, 4, none⟩ (.int .i64 f)).drew C a b c d f) := X1p.out.drew
      have Y1p : Hid (StateAt 25 (((((w8.setCell ⟨w.heap.size, 0, none⟩ (.int .i64 a)).setCell ⟨w.heap.size, 1, none⟩ (.int .i64 b)).setCell ⟨w.heap.size, 2, none⟩ (.int .i64 c)).setCell ⟨w.heap.size, 3, none⟩ (.int .i64 d)).setCell ⟨w.heap.size, 4, none⟩ (.int .i64 f)) D V b c d q) := StateAt.far5 D8 hDR1 a b c d f
      have Y1a : Hid (StateAt 25 (((((w8.setCell ⟨w.heap.size, 0, none⟩ (.int .i64 a)).setCell ⟨w.heap.size, 1, none⟩ (.int .i64 b)).setCell ⟨w.heap.size, 2, none⟩ (.int .i64 c)).setCell ⟨w.heap.size, 3, none⟩ (.int .i64 d)).setCell ⟨w.heap.size, 4, none⟩ (.int .i64 f)).drew D V b c d q) := Y1p.out.drew
      have X2p : Hid (StateAt 25 ((((((((((w8.setCell ⟨w.heap.size, 0, none⟩ (.int .i64 a)).setCell ⟨w.heap.size, 1, none⟩ (.int .i64 b)).setCell ⟨w.heap.size, 2, none⟩ (.int .i64 c)).setCell ⟨w.heap.size, 3, none⟩ (.int .i64 d)).setCell ⟨w.heap.size, 4, none⟩ (.int .i64 f)).setCell ⟨w.heap.size + 1, 0, none⟩ (.int .i64 V)).setCell ⟨w.heap.size + 1, 1, none⟩ (.int .i64 b)).setCell ⟨w.heap.size + 1, 2, none⟩ (.int .i64 c)).setCell ⟨w.heap.size + 1, 3, none⟩ (.int .i64 d)).setCell ⟨w.heap.size + 1, 4, none⟩ (.int .i64 q)) C a b c d f) := StateAt.far5 X1p.out hCR2 V b c d q
      have X2a : Hid (StateAt 25 ((((((((((w8.setCell ⟨w.heap.size, 0, none⟩ (.int .i64 a)).setCell ⟨w.heap.size, 1, none⟩ (.int .i64 b)).setCell ⟨w.heap.size, 2, none⟩ (.int .i64 c)).setCell ⟨w.heap.size, 3, none⟩ (.int .i64 d)).setCell ⟨w.heap.size, 4, none⟩ (.int .i64 f)).setCell ⟨w.heap.size + 1, 0, none⟩ (.int .i64 V)).setCell ⟨w.heap.size + 1, 1, none⟩ (.int .i64 b)).setCell ⟨w.heap.size + 1, 2, none⟩ (.int .i64 c)).setCell ⟨w.heap.size + 1, 3, none⟩ (.int .i64 d)).setCell ⟨w.heap.size + 1, 4, none⟩ (.int .i64 q)).drew C a b c d f) := X2p.out.drew
      have Y2p : Hid (StateAt 25 ((((((((((w8.setCell ⟨w.heap.size, 0, none⟩ (.int .i64 a)).setCell ⟨w.heap.size, 1, none⟩ (.int .i64 b)).setCell ⟨w.heap.size, 2, none⟩ (.int .i64 c)).setCell ⟨w.heap.size, 3, none⟩ (.int .i64 d)).setCell ⟨w.heap.size, 4, none⟩ (.int .i64 f)).setCell ⟨w.heap.size + 1, 0, none⟩ (.int .i64 V)).setCell ⟨w.heap.size + 1, 1, none⟩ (.int .i64 b)).setCell ⟨w.heap.size + 1, 2, none⟩ (.int .i64 c)).setCell ⟨w.heap.size + 1, 3, none⟩ (.int .i64 d)).setCell ⟨w.heap.size + 1, 4, none⟩ (.int .i64 q)) D V b c d q) := StateAt.far5 Y1p.out hDR2 V b c d q
      have Y2a : Hid (StateAt 25 ((((((((((w8.setCell ⟨w.heap.size, 0, none⟩ (.int .i64 a)).setCell ⟨w.heap.size, 1, none⟩ (.int .i64 b)).setCell ⟨w.heap.size, 2, none⟩ (.int .i64 c)).setCell ⟨w.heap.size, 3, none⟩ (.int .i64 d)).setCell ⟨w.heap.size, 4, none⟩ (.int .i64 f)).setCell ⟨w.heap.size + 1, 0, none⟩ (.int .i64 V)).setCell ⟨w.heap.size + 1, 1, none⟩ (.int .i64 b)).setCell ⟨w.heap.size + 1, 2, none⟩ (.int .i64 c)).setCell ⟨w.heap.size + 1, 3, none⟩ (.int .i64 d)).setCell ⟨w.heap.size + 1, 4, none⟩ (.int .i64 q)).drew D V b c d q) := Y2p.out.drew
      have X1b : Hid (StateAt 25 (((((w8.drew.setCell ⟨w.heap.size, 0, none⟩ (.int .i64 a)).setCell ⟨w.heap.size, 1, none⟩ (.int .i64 b)).setCell ⟨w.heap.size, 2, none⟩ (.int .i64 c)).setCell ⟨w.heap.size, 3, none⟩ (.int .i64 d)).setCell ⟨w.heap.size, 4, none⟩ (.int .i64 f)) C a b c d f) := StateAt.far5 Cd.out hCR1 a b c d f
      have Y1b : Hid (StateAt 25 (((((w8.drew.setCell ⟨w.heap.size, 0, none⟩ (.int .i64 a)).setCell ⟨w.heap.size, 1, none⟩ (.int .i64 b)).setCell ⟨w.heap.size, 2, none⟩ (.int .i64 c)).setCell ⟨w.heap.size, 3, none⟩ (.int .i64 d)).setCell ⟨w.heap.size, 4, none⟩ (.int .i64 f)) D V b c d q) := StateAt.far5 Dd.out hDR1 a b c d f
      have X2b : Hid (StateAt 25 ((((((((((w8.drew.setCell ⟨w.heap.size, 0, none⟩ (.int .i64 a)).setCell ⟨w.heap.size, 1, none⟩ (.int .i64 b)).setCell ⟨w.heap.size, 2, none⟩ (.int .i64 c)).setCell ⟨w.heap.size, 3, none⟩ (.int .i64 d)).setCell ⟨w.heap.size, 4, none⟩ (.int .i64 f)).setCell ⟨w.heap.size + 1, 0, none⟩ (.int .i64 V)).setCell ⟨w.heap.size + 1, 1, none⟩ (.int .i64 b)).setCell ⟨w.heap.size + 1, 2, none⟩ (.int .i64 c)).setCell ⟨w.heap.size + 1, 3, none⟩ (.int .i64 d)).setCell ⟨w.heap.size + 1, 4, none⟩ (.int .i64 q)) C a b c d f) := StateAt.far5 X1b.out hCR2 V b c d q
      have Y2b : Hid (StateAt 25 ((((((((((w8.drew.setCell ⟨w.heap.size, 0, none⟩ (.int .i64 a)).setCell ⟨w.heap.size, 1, none⟩ (.int .i64 b)).setCell ⟨w.heap.size, 2, none⟩ (.int .i64 c)).setCell ⟨w.heap.size, 3, none⟩ (.int .i64 d)).setCell ⟨w.heap.size, 4, none⟩ (.int .i64 f)).setCell ⟨w.heap.size + 1, 0, none⟩ (.int .i64 V)).setCell ⟨w.heap.size + 1, 1, none⟩ (.int .i64 b)).setCell ⟨w.heap.size + 1, 2, none⟩ (.int .i64 c)).setCell ⟨w.heap.size + 1, 3, none⟩ (.int .i64 d)).setCell ⟨w.heap.size + 1, 4, none⟩ (.int .i64 q)) D V b c d q) := StateAt.far5 Y1b.out hDR2 V b c d q
      have q3 : StateAt 25 (((((w8.setCell ⟨w.heap.size, 0, none⟩ (.int .i64 a)).setCell ⟨w.heap.size, 1, none⟩ (.int .i64 b)).setCell ⟨w.heap.size, 2, none⟩ (.int .i64 c)).setCell ⟨w.heap.size, 3, none⟩ (.int .i64 d)).setCell ⟨w.heap.size, 4, none⟩ (.int .i64 f)) (w.heap.size + 1) 0 0 0 0 0 := StateAt.far5 q2 hne a b c d f
      have F1 := Lib.hid (StateAt.far5 (StateAt.five q1 a b c d f) hne.symm V b c d q)
      have F2 : Hid (StateAt 25 ((((((((((w8.setCell ⟨w.heap.size, 0, none⟩ (.int .i64 a)).setCell ⟨w.heap.size, 1, none⟩ (.int .i64 b)).setCell ⟨w.heap.size, 2, none⟩ (.int .i64 c)).setCell ⟨w.heap.size, 3, none⟩ (.int .i64 d)).setCell ⟨w.heap.size, 4, none⟩ (.int .i64 f)).setCell ⟨w.heap.size + 1, 0, none⟩ (.int .i64 V)).setCell ⟨w.heap.size + 1, 1, none⟩ (.int .i64 b)).setCell ⟨w.heap.size + 1, 2, none⟩ (.int .i64 c)).setCell ⟨w.heap.size + 1, 3, none⟩ (.int .i64 d)).setCell ⟨w.heap.size + 1, 4, none⟩ (.int .i64 q)) (w.heap.size + 1) V b c d q) := StateAt.five q3 V b c d q
      have H9 := Lib.hid H8
      have r0 := q1.c0
      have r1 := q1.c1
      have r2 := q1.c2
      have r3 := q1.c3
      have r4 := q1.c4
      have u0 := q1.f 0
      have u1 := q1.f 1
      have u2 := q1.f 2
      have u3 := q1.f 3
      have u4 := q1.f 4
      have s0 := q3.c0
      have s1 := q3.c1
      have s2 := q3.c2
      have s3 := q3.c3
      have s4 := q3.c4
      have v0 := q3.f 0
      have v1 := q3.f 1
      have v2 := q3.f 2
      have v3 := q3.f 3
      have v4 := q3.f 4
      clear q1 q2 q3 D8 C8 H8 hw
      go_wp2_with fail
      go_region_held3 (fun w' => w'.cell? ⟨C, 0, none⟩ = some (.int .i64 a) ∧ w'.cell? ⟨C, 1, none⟩ = some (.int .i64 b) ∧ w'.cell? ⟨C, 2, none⟩ = some (.int .i64 c) ∧ w'.cell? ⟨C, 3, none⟩ = some (.int .i64 d) ∧ w'.cell? ⟨C, 4, none⟩ = some (.int .i64 f) ∧ w'.cell? ⟨D, 0, none⟩ = some (.int .i64 V) ∧ w'.cell? ⟨D, 1, none⟩ = some (.int .i64 b) ∧ w'.cell? ⟨D, 2, none⟩ = some (.int .i64 c) ∧ w'.cell? ⟨D, 3, none⟩ = some (.int .i64 d) ∧ w'.cell? ⟨D, 4, none⟩ = some (.int .i64 q))
        (first | with_reducible exact ⟨Cd.out.c0, Cd.out.c1, Cd.out.c2, Cd.out.c3, Cd.out.c4, Dd.out.c0, Dd.out.c1, Dd.out.c2, Dd.out.c3, Dd.out.c4⟩ | with_reducible exact ⟨X1a.out.c0, X1a.out.c1, X1a.out.c2, X1a.out.c3, X1a.out.c4, Y1a.out.c0, Y1a.out.c1, Y1a.out.c2, Y1a.out.c3, Y1a.out.c4⟩ | with_reducible exact ⟨X2a.out.c0, X2a.out.c1, X2a.out.c2, X2a.out.c3, X2a.out.c4, Y2a.out.c0, Y2a.out.c1, Y2a.out.c2, Y2a.out.c3, Y2a.out.c4⟩ | with_reducible exact ⟨X1b.out.c0, X1b.out.c1, X1b.out.c2, X1b.out.c3, X1b.out.c4, Y1b.out.c0, Y1b.out.c1, Y1b.out.c2, Y1b.out.c3, Y1b.out.c4⟩ | with_reducible exact ⟨X2b.out.c0, X2b.out.c1, X2b.out.c2, X2b.out.c3, X2b.out.c4, Y2b.out.c0, Y2b.out.c1, Y2b.out.c2, Y2b.out.c3, Y2b.out.c4⟩)
        (first | fail)
    all_goals
      clear r0 r1 r2 r3 r4 u0 u1 u2 u3 u4 s0 s1 s2 s3 s4 v0 v1 v2 v3 v4 X1a Y1a X2a Y2a X1b Y1b X2b Y2b X1p Y1p X2p Y2p Cd Dd
      go_wp2_with fail
      change bodyPost _ _ _ _ _ (setFive (setFive w8 w.heap.size a b c d f) (w.heap.size + 1) V b c d q).drew
      have BF : Below w.heap.size w (setFive (setFive w8 w.heap.size a b c d f) (w.heap.size + 1) V b c d q) := below_two' (below_two' (below_two HB.out H9.out.below) (below_five (Nat.le_refl _) a b c d f)) (below_five (by omega) V b c d q)
      have f1 := F1.out
      have f2 : StateAt 25 (setFive (setFive w8 w.heap.size a b c d f) (w.heap.size + 1) V b c d q) (w.heap.size + 1) V b c d q := F2.out
      generalize setFive (setFive w8 w.heap.size a b c d f) (w.heap.size + 1) V b c d q = wz at f1 f2 BF ⊢
      have e0 := f1.c0
      have e1 := f1.c1
      have e2 := f1.c2
      have e3 := f1.c3
      have e4 := f1.c4
      have e5 := f2.c0
      have e6 := f2.c1
      have e7 := f2.c2
      have e8 := f2.c3
      have e9 := f2.c4
      exact bodyPost_ret (v := .tuple #[.agg #[.int .i64 a, .int .i64 b, .int .i64 c, .int .i64 d, .int .i64 f], .agg #[.int .i64 V, .int .i64 b, .int .i64 c, .int .i64 d, .int .i64 q]]) (by simp [results, Try.results16, go_sem, e0, e1, e2, e3, e4, e5, e6, e7, e8, e9]) rfl ⟨_, _, _, _, _, _, _, _, _, _, rfl, BF.drew⟩
end Go.Proofs.Ytenlfonekcpblaa
