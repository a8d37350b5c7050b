/-
  Chapter 7: slices.Concat of two lists, areFrameErrors, MissedErrors of the program.
-/
import Derived.Test.YtdcalkobcdeclaaHD
namespace Go.Proofs.Ytdcalkobcdeclaa
open Go.RowKit

/-- The part of two lists that has been joined behind k of them. -/
def joined (xs ys : List Int) (k : Nat) : List Int := if k = 0 then [] else if k = 1 then xs else xs ++ ys
set_option maxRecDepth 100000 in
theorem concat2_any (G : Nat) (p1 p2 : Option Addr) (n1 n2 c1 c2 : Nat) (xs ys : List Int) (w : World) (h0 : w.cell? ⟨G, 0, none⟩ = some (.slice p1 n1 c1)) (h1 : w.cell? ⟨G, 1, none⟩ = some (.slice p2 n2 c2)) (hx : Rd w p1 n1 xs) (hy : Rd w p2 n2 ys) (l1 : 0 < n1) (l2 : n1 ≤ 10000) (l3 : n2 ≤ 10000) :
    Calls Try.prog 96 #[.slice (some ⟨G, 0, none⟩) 2 2] w (Makes 2 w (xs ++ ys)) := by
  have hG := World.block_lt_of_cell? w _ h0
  have HX := Lib.hid hx; have HY := Lib.hid hy; clear hx hy
  have HC0 := Lib.hid h0; have HC1 := Lib.hid h1; clear h0 h1
  go_enter Try.func96, Try.ntmps96
  go_wp2
  go_loopw [3, 5, 11] (fun sz u i wr => ∃ k : Nat, k ≤ 2 ∧ i = .int .i64 k ∧ sz = .int .i64 ((if k = 0 then 0 else if k = 1 then n1 else n1 + n2 : Nat) : Int) ∧ ∃ q, wr = w.drewN q) (fun _ _ i _ => 2 - (intOf i).toNat)
  case atStart => exact ⟨0, Nat.zero_le _, rfl, rfl, 0, rfl⟩
  case round =>
    obtain ⟨k, hk, rfl, rfl, q, rfl⟩ := hrel
    rcases (show k = 0 ∨ k = 1 ∨ k = 2 from by omega) with rfl | rfl | rfl
    · have hc : (w.drewN q).cell? ⟨G, 0, none⟩ = some (.slice p1 n1 c1) := HC0.out
      have hw1 : IntKind.i64.wrap (0 + (n1 : Int)) = (n1 : Int) := by rw [IntKind.wrap_i64]; omega
      have hw2 : ¬ ((n1 : Int) < 0) := by omega
      simp only [if_true]
      go_wp2
      go_roundw
      case rel => exact ⟨1, by omega, by go_num, by simp, q, rfl⟩
      case measure => simp [intOf]
    · have hc : (w.drewN q).cell? ⟨G, 1, none⟩ = some (.slice p2 n2 c2) := HC1.out
      have hw1 : IntKind.i64.wrap ((n1 : Int) + (n2 : Int)) = ((n1 + n2 : Nat) : Int) := by rw [IntKind.wrap_i64]; omega
      have hw2 : ¬ (((n1 + n2 : Nat) : Int) < 0) := by omega
      have hw3 : ¬ ((n1 : Int) + (n2 : Int) < 0) := by omega
      simp only [show (1 : Nat) ≠ 0 from by omega, if_false, if_true]
      go_wp2
      go_roundw
      case rel => exact ⟨2, by omega, by go_num, by simp, q, rfl⟩
      case measure => simp [intOf]
    · simp only [show (2 : Nat) ≠ 0 from by omega, show (2 : Nat) ≠ 1 from by omega, if_false]
      have hgrow := growNil_any (n1 + n2) (w.drewN q) (by omega) (by omega)
      have HGR := Lib.hid hgrow; clear hgrow
      go_wp2_with fail
      refine HGR.out.mono ?_
      rintro e w1 m1
      obtain ⟨pg, cg, rfl, og, -, bg⟩ := m1.get
      have OG := Lib.hid (show Own 2 w1 w.heap.size (.slice pg (List.length ([] : List Int)) cg) [] from og)
      have BG := Lib.hid (show Below w.heap.size w w1 from (below_drewN' (Below.refl w.heap.size w) q).trans bg)
      clear m1 og bg HGR
      go_wp2
      go_loopw [6, 8, 27] (fun v u i wr => ∃ k : Nat, k ≤ 2 ∧ i = .int .i64 k ∧ Own 2 wr w.heap.size v (joined xs ys k) ∧ Below w.heap.size w wr) (fun _ _ i _ => 2 - (intOf i).toNat)
      case atStart => exact ⟨0, Nat.zero_le _, rfl, OG.out, BG.out⟩
      case round =>
        clear OG BG
        obtain ⟨k, hk, rfl, hown, hbel⟩ := hrel
        have hxl := HX.out.len
        have hyl := HY.out.len
        have O1 := Lib.hid hown
        have B1 := Lib.hid hbel
        have hsz := hbel.size
        have hc0 := (hbel.cell (p := ⟨G, 0, none⟩) hG).trans HC0.out
        have hc1 := (hbel.cell (p := ⟨G, 1, none⟩) hG).trans HC1.out
        clear hown hbel
        rcases (show k = 0 ∨ k = 1 ∨ k = 2 from by omega) with rfl | rfl | rfl
        · go_wp2_with (at_builtin; refine append_list _ rfl (.tmp 31) (.tmp 32) rfl w.heap.size Try.underlying34 info64 _ [] rfl O1.out _ _ _ xs rfl (HX.out.below B1.out) (by simp; omega) hsz ?_; intro v2 w2 o2 b2)
          go_roundw
          case rel => exact ⟨1, by omega, by go_num, by simpa [joined] using o2, B1.out.trans b2⟩
          case measure => simp [intOf]
        · go_wp2_with (at_builtin; refine append_list _ rfl (.tmp 31) (.tmp 32) rfl w.heap.size Try.underlying34 info64 _ xs rfl O1.out _ _ _ ys rfl (HY.out.below B1.out) (by omega) hsz ?_; intro v2 w2 o2 b2)
          go_roundw
          case rel => exact ⟨2, by omega, by go_num, by simpa [joined] using o2, B1.out.trans b2⟩
          case measure => simp [intOf]
        · go_wp2
          go_ret
          exact ⟨_, rfl, O1.out, B1.out⟩
theorem fe_no {es : List Int} (h : ¬ (isBits es = true ∧ 32 ≤ es.length ∧ es.length % 8 = 0 ∧ es.getD 0 0 = 0 ∧ es.getD 1 0 = 0)) : frameErrs es = false := by
  rcases hf : frameErrs es with _ | _
  · rfl
  · exact absurd (fe_parts hf) h
theorem fe_yes {es : List Int} (h1 : isBits es = true) (h2 : 32 ≤ es.length) (h3 : es.length % 8 = 0) (h4 : es.getD 0 0 = 0) (h5 : es.getD 1 0 = 0) : frameErrs es = true := by
  unfold frameErrs; rw [h1, decide_eq_true h2, decide_eq_true h3, h4, h5]; rfl
theorem areFrameErrors_any (ao : Option Addr) (cap : Nat) (es : List Int) (w : World) (hr : Rd w ao es.length es) (hn : es.length ≤ 1048576) : Calls Try.prog 93 #[.slice ao es.length cap] w fun e w' => e = .returned (.bool (frameErrs es)) ∧ w = w' := by
  rcases hb : isBits es with _ | _
  · rw [fe_no (by simp [hb])]
    have HB := Lib.hid hb; clear hb
    go_enter Try.func93, Try.ntmps93
    go_wp2_with (go_at_call 106; refine (isBits_any _ _ _ _ _ hr (by omega)).mono ?_; rintro e w' ⟨rfl, rfl⟩; rw [HB.out])
    go_ret
    exact ⟨rfl, rfl⟩
  by_cases h32 : 32 ≤ es.length
  rotate_left
  · rw [fe_no (fun h => h32 h.2.1)]
    have HB := Lib.hid hb; clear hb
    have hh : ¬ ((32 : Int) ≤ (es.length : Int)) := by omega
    go_enter Try.func93, Try.ntmps93
    go_wp2_with (go_at_call 106; refine (isBits_any _ _ _ _ _ hr (by omega)).mono ?_; rintro e w' ⟨rfl, rfl⟩; rw [HB.out])
    go_ret
    exact ⟨rfl, rfl⟩
  have hh : (32 : Int) ≤ (es.length : Int) := by omega
  by_cases h8 : es.length % 8 = 0
  rotate_left
  · rw [fe_no (fun h => h8 h.2.2.1)]
    have HB := Lib.hid hb; clear hb
    have hm : ((es.length : Int) % 8 == 0) = false := by simp; omega
    go_enter Try.func93, Try.ntmps93
    go_wp2_with (go_at_call 106; refine (isBits_any _ _ _ _ _ hr (by omega)).mono ?_; rintro e w' ⟨rfl, rfl⟩; rw [HB.out])
    go_ret
    exact ⟨rfl, rfl⟩
  have hm : ((es.length : Int) % 8 == 0) = true := by simp; omega
  obtain ⟨b, off, rfl, hat⟩ := hr.here (by omega)
  have hc0 := hat 0 (by omega)
  have hc1 := hat 1 (by omega)
  rw [Nat.add_zero] at hc0
  clear hat
  have hi0 : (0 : Int) < (es.length : Int) := by omega
  have hi1 : (1 : Int) < (es.length : Int) := by omega
  by_cases he0 : es.getD 0 0 = 0
  rotate_left
  · rw [fe_no (fun h => he0 h.2.2.2.1)]
    obtain ⟨x, hx⟩ : ∃ x, es.getD 0 0 = x := ⟨_, rfl⟩
    rw [hx] at hc0 he0
    have ht : (x == 0) = false := by simp [he0]
    have HB := Lib.hid hb; clear hb hx hc1 he0
    go_enter Try.func93, Try.ntmps93
    go_wp2_with (go_at_call 106; refine (isBits_any _ _ _ _ _ hr (by omega)).mono ?_; rintro e w' ⟨rfl, rfl⟩; rw [HB.out])
    go_ret
    exact ⟨rfl, rfl⟩
  by_cases he1 : es.getD 1 0 = 0
  rotate_left
  · rw [fe_no (fun h => he1 h.2.2.2.2)]
    obtain ⟨x, hx⟩ : ∃ x, es.getD 1 0 = x := ⟨_, rfl⟩
    rw [he0] at hc0
    rw [hx] at hc1 he1
    have ht : (x == 0) = false := by simp [he1]
    have HB := Lib.hid hb; clear hb hx he1 he0
    go_enter Try.func93, Try.ntmps93
    go_wp2_with (go_at_call 106; refine (isBits_any _ _ _ _ _ hr (by omega)).mono ?_; rintro e w' ⟨rfl, rfl⟩; rw [HB.out])
    go_ret
    exact ⟨rfl, rfl⟩
  rw [fe_yes hb h32 h8 he0 he1]
  rw [he0] at hc0
  rw [he1] at hc1
  have HB := Lib.hid hb; clear hb he0 he1
  go_enter Try.func93, Try.ntmps93
  go_wp2_with (go_at_call 106; refine (isBits_any _ _ _ _ _ hr (by omega)).mono ?_; rintro e w' ⟨rfl, rfl⟩; rw [HB.out])
  go_ret
  exact ⟨rfl, rfl⟩
/-- The two states that a call lays first. -/
structure TwoS (w wi : World) (t m r s k t' m' r' s' k' : Int) : Prop where
  a : StateAt 33 wi w.heap.size t m r s k
  b : StateAt 33 wi (w.heap.size + 1) t' m' r' s' k'
  below : Below w.heap.size w wi
section
variable {w wi wj : World} {t m r s k t' m' r' s' k' : Int}
theorem TwoS.call (h : TwoS w wi t m r s k t' m' r' s' k') (b : Below wi.heap.size wi wj) : TwoS w wj t m r s k t' m' r' s' k' := ⟨h.a.below b h.a.lt, h.b.below b h.b.lt, below_two h.below b⟩
theorem TwoS.cells (h : TwoS w wi t m r s k t' m' r' s' k') : (wi.cell? ⟨w.heap.size, 0, none⟩ = some (.int .i64 t) ∧ wi.cell? ⟨w.heap.size, 1, none⟩ = some (.int .i64 m) ∧ wi.cell? ⟨w.heap.size, 2, none⟩ = some (.int .i64 r) ∧ wi.cell? ⟨w.heap.size, 3, none⟩ = some (.int .i64 s) ∧ wi.cell? ⟨w.heap.size, 4, none⟩ = some (.int .i64 k)) ∧ (wi.cell? ⟨w.heap.size + 1, 0, none⟩ = some (.int .i64 t') ∧ wi.cell? ⟨w.heap.size + 1, 1, none⟩ = some (.int .i64 m') ∧ wi.cell? ⟨w.heap.size + 1, 2, none⟩ = some (.int .i64 r') ∧ wi.cell? ⟨w.heap.size + 1, 3, none⟩ = some (.int .i64 s') ∧ wi.cell? ⟨w.heap.size + 1, 4, none⟩ = some (.int .i64 k')) := ⟨state_cells h.a, state_cells h.b⟩
theorem TwoS.start (w : World) : TwoS w ((w.alloc (.cells #[.int .i64 t, .int .i64 m, .int .i64 r, .int .i64 s, .int .i64 k] 33)).alloc (.cells #[.int .i64 t', .int .i64 m', .int .i64 r', .int .i64 s', .int .i64 k'] 33)) t m r s k t' m' r' s' k' :=
  have h := state_new2 (Below.refl ((w.alloc (.cells #[.int .i64 t, .int .i64 m, .int .i64 r, .int .i64 s, .int .i64 k] 33)).alloc (.cells #[.int .i64 t', .int .i64 m', .int .i64 r', .int .i64 s', .int .i64 k'] 33)).heap.size ((w.alloc (.cells #[.int .i64 t, .int .i64 m, .int .i64 r, .int .i64 s, .int .i64 k] 33)).alloc (.cells #[.int .i64 t', .int .i64 m', .int .i64 r', .int .i64 s', .int .i64 k'] 33)))
  ⟨h.1, h.2, ((Below.refl _ _).alloc (Nat.le_refl _) _).alloc (by simp) _⟩
end
set_option linter.unusedSimpArgs false in
set_option linter.unusedVariables false in
set_option maxHeartbeats 4000000 in
set_option maxRecDepth 100000 in
theorem im_A (kind t m r s k t' m' r' s' k' : Int) (ao : Option Addr) (cap : Nat) (es : List Int) (w : World) (hr : Rd w ao es.length es) (hn : es.length ≤ 1000) (ha : isState t m r s k = false) : Calls Try.prog 39 #[.int .i64 kind, .agg #[.int .i64 t, .int .i64 m, .int .i64 r, .int .i64 s, .int .i64 k], .agg #[.int .i64 t', .int .i64 m', .int .i64 r', .int .i64 s', .int .i64 k'], .slice ao es.length cap] w (fun e w' => e = .returned (.tuple #[.bool (missed kind t m r s k t' m' r' s' k' es).1, .int .i64 (missed kind t m r s k t' m' r' s' k' es).2]) ∧ Below w.heap.size w w') := by
  rw [mi_A ha]
  have T0 := Lib.hid (TwoS.start (t := t) (m := m) (r := r) (s := s) (k := k) (t' := t') (m' := m') (r' := r') (s' := s') (k' := k') w)
  have HR := Lib.hid hr; clear hr
  have HA := Lib.hid ha; clear ha
  go_enter Try.func39, Try.ntmps39
  go_upto_region 1 with fail
  generalize (w.alloc (.cells #[.int .i64 t, .int .i64 m, .int .i64 r, .int .i64 s, .int .i64 k] 33)).alloc (.cells #[.int .i64 t', .int .i64 m', .int .i64 r', .int .i64 s', .int .i64 k'] 33) = w0 at T0 ⊢
  obtain ⟨⟨c0, c1, c2, c3, c4⟩, ⟨d0, d1, d2, d3, d4⟩⟩ := T0.out.cells
  go_wp2_with fail
  refine (frameKindOf_any _ _).mono ?_
  rintro e w1 ⟨rfl, rfl⟩
  generalize kindOk kind = kb
  go_wp2_with fail
  clear c0 c1 c2 c3 c4 d0 d1 d2 d3 d4
  refine (isState_any _ _ _ _ _ _).mono ?_
  rintro e w1 ⟨rfl, b1⟩
  rw [HA.out]
  have T1 := Lib.hid (T0.out.call b1)
  clear b1 T0
  go_wp2
  go_ret2
  exact ⟨rfl, T1.out.below⟩
set_option linter.unusedSimpArgs false in
set_option linter.unusedVariables false in
set_option maxHeartbeats 4000000 in
set_option maxRecDepth 100000 in
theorem im_A2 (kind t m r s k t' m' r' s' k' : Int) (ao : Option Addr) (cap : Nat) (es : List Int) (w : World) (hr : Rd w ao es.length es) (hn : es.length ≤ 1000) (ha : isState t m r s k = true) (hb : isState t' m' r' s' k' = false) : Calls Try.prog 39 #[.int .i64 kind, .agg #[.int .i64 t, .int .i64 m, .int .i64 r, .int .i64 s, .int .i64 k], .agg #[.int .i64 t', .int .i64 m', .int .i64 r', .int .i64 s', .int .i64 k'], .slice ao es.length cap] w (fun e w' => e = .returned (.tuple #[.bool (missed kind t m r s k t' m' r' s' k' es).1, .int .i64 (missed kind t m r s k t' m' r' s' k' es).2]) ∧ Below w.heap.size w w') := by
  rw [mi_A2 hb]
  have T0 := Lib.hid (TwoS.start (t := t) (m := m) (r := r) (s := s) (k := k) (t' := t') (m' := m') (r' := r') (s' := s') (k' := k') w)
  have HR := Lib.hid hr; clear hr
  have HA := Lib.hid ha; clear ha
  have HB := Lib.hid hb; clear hb
  go_enter Try.func39, Try.ntmps39
  go_upto_region 1 with fail
  generalize (w.alloc (.cells #[.int .i64 t, .int .i64 m, .int .i64 r, .int .i64 s, .int .i64 k] 33)).alloc (.cells #[.int .i64 t', .int .i64 m', .int .i64 r', .int .i64 s', .int .i64 k'] 33) = w0 at T0 ⊢
  obtain ⟨⟨c0, c1, c2, c3, c4⟩, ⟨d0, d1, d2, d3, d4⟩⟩ := T0.out.cells
  go_wp2_with fail
  refine (frameKindOf_any _ _).mono ?_
  rintro e w1 ⟨rfl, rfl⟩
  generalize kindOk kind = kb
  go_wp2_with fail
  clear c0 c1 c2 c3 c4 d0 d1 d2 d3 d4
  refine (isState_any _ _ _ _ _ _).mono ?_
  rintro e w1 ⟨rfl, b1⟩
  rw [HA.out]
  have T1 := Lib.hid (T0.out.call b1)
  clear b1 T0
  obtain ⟨⟨c0, c1, c2, c3, c4⟩, ⟨d0, d1, d2, d3, d4⟩⟩ := T1.out.cells
  go_wp2_with fail
  clear c0 c1 c2 c3 c4 d0 d1 d2 d3 d4
  refine (isState_any _ _ _ _ _ _).mono ?_
  rintro e w2 ⟨rfl, b2⟩
  rw [HB.out]
  have T2 := Lib.hid (T1.out.call b2)
  clear b2 T1
  go_wp2
  go_ret2
  exact ⟨rfl, T2.out.below⟩
set_option linter.unusedSimpArgs false in
set_option linter.unusedVariables false in
set_option maxHeartbeats 4000000 in
set_option maxRecDepth 100000 in
theorem im_B (kind t m r s k t' m' r' s' k' : Int) (ao : Option Addr) (cap : Nat) (es : List Int) (w : World) (hr : Rd w ao es.length es) (hn : es.length ≤ 1000) (ha : isState t m r s k = true) (hb : isState t' m' r' s' k' = true) (hk : kindOk kind = false) : Calls Try.prog 39 #[.int .i64 kind, .agg #[.int .i64 t, .int .i64 m, .int .i64 r, .int .i64 s, .int .i64 k], .agg #[.int .i64 t', .int .i64 m', .int .i64 r', .int .i64 s', .int .i64 k'], .slice ao es.length cap] w (fun e w' => e = .returned (.tuple #[.bool (missed kind t m r s k t' m' r' s' k' es).1, .int .i64 (missed kind t m r s k t' m' r' s' k' es).2]) ∧ Below w.heap.size w w') := by
  rw [mi_B ha hb hk]
  have T0 := Lib.hid (TwoS.start (t := t) (m := m) (r := r) (s := s) (k := k) (t' := t') (m' := m') (r' := r') (s' := s') (k' := k') w)
  have HR := Lib.hid hr; clear hr
  have HA := Lib.hid ha; clear ha
  have HB := Lib.hid hb; clear hb
  have HK := Lib.hid hk; clear hk
  go_enter Try.func39, Try.ntmps39
  go_upto_region 1 with fail
  generalize (w.alloc (.cells #[.int .i64 t, .int .i64 m, .int .i64 r, .int .i64 s, .int .i64 k] 33)).alloc (.cells #[.int .i64 t', .int .i64 m', .int .i64 r', .int .i64 s', .int .i64 k'] 33) = w0 at T0 ⊢
  obtain ⟨⟨c0, c1, c2, c3, c4⟩, ⟨d0, d1, d2, d3, d4⟩⟩ := T0.out.cells
  go_wp2_with fail
  refine (frameKindOf_any _ _).mono ?_
  rintro e w1 ⟨rfl, rfl⟩
  rw [HK.out]
  go_wp2_with fail
  clear c0 c1 c2 c3 c4 d0 d1 d2 d3 d4
  refine (isState_any _ _ _ _ _ _).mono ?_
  rintro e w1 ⟨rfl, b1⟩
  rw [HA.out]
  have T1 := Lib.hid (T0.out.call b1)
  clear b1 T0
  obtain ⟨⟨c0, c1, c2, c3, c4⟩, ⟨d0, d1, d2, d3, d4⟩⟩ := T1.out.cells
  go_wp2_with fail
  clear c0 c1 c2 c3 c4 d0 d1 d2 d3 d4
  refine (isState_any _ _ _ _ _ _).mono ?_
  rintro e w2 ⟨rfl, b2⟩
  rw [HB.out]
  have T2 := Lib.hid (T1.out.call b2)
  clear b2 T1
  go_wp2
  go_ret2
  exact ⟨rfl, T2.out.below⟩
set_option linter.unusedSimpArgs false in
set_option linter.unusedVariables false in
set_option maxHeartbeats 4000000 in
set_option maxRecDepth 100000 in
theorem im_C (kind t m r s k t' m' r' s' k' : Int) (ao : Option Addr) (cap : Nat) (es : List Int) (w : World) (hr : Rd w ao es.length es) (hn : es.length ≤ 1000) (ha : isState t m r s k = true) (hb : isState t' m' r' s' k' = true) (hk : kindOk kind = true) (hf : frameErrs es = false) : Calls Try.prog 39 #[.int .i64 kind, .agg #[.int .i64 t, .int .i64 m, .int .i64 r, .int .i64 s, .int .i64 k], .agg #[.int .i64 t', .int .i64 m', .int .i64 r', .int .i64 s', .int .i64 k'], .slice ao es.length cap] w (fun e w' => e = .returned (.tuple #[.bool (missed kind t m r s k t' m' r' s' k' es).1, .int .i64 (missed kind t m r s k t' m' r' s' k' es).2]) ∧ Below w.heap.size w w') := by
  rw [mi_C ha hb hk hf]
  have T0 := Lib.hid (TwoS.start (t := t) (m := m) (r := r) (s := s) (k := k) (t' := t') (m' := m') (r' := r') (s' := s') (k' := k') w)
  have HR := Lib.hid hr; clear hr
  have HA := Lib.hid ha; clear ha
  have HB := Lib.hid hb; clear hb
  have HK := Lib.hid hk; clear hk
  have HF := Lib.hid hf; clear hf
  go_enter Try.func39, Try.ntmps39
  go_upto_region 1 with fail
  generalize (w.alloc (.cells #[.int .i64 t, .int .i64 m, .int .i64 r, .int .i64 s, .int .i64 k] 33)).alloc (.cells #[.int .i64 t', .int .i64 m', .int .i64 r', .int .i64 s', .int .i64 k'] 33) = w0 at T0 ⊢
  obtain ⟨⟨c0, c1, c2, c3, c4⟩, ⟨d0, d1, d2, d3, d4⟩⟩ := T0.out.cells
  go_wp2_with fail
  refine (frameKindOf_any _ _).mono ?_
  rintro e w1 ⟨rfl, rfl⟩
  rw [HK.out]
  go_wp2_with fail
  clear c0 c1 c2 c3 c4 d0 d1 d2 d3 d4
  refine (isState_any _ _ _ _ _ _).mono ?_
  rintro e w1 ⟨rfl, b1⟩
  rw [HA.out]
  have T1 := Lib.hid (T0.out.call b1)
  clear b1 T0
  obtain ⟨⟨c0, c1, c2, c3, c4⟩, ⟨d0, d1, d2, d3, d4⟩⟩ := T1.out.cells
  go_wp2_with fail
  clear c0 c1 c2 c3 c4 d0 d1 d2 d3 d4
  refine (isState_any _ _ _ _ _ _).mono ?_
  rintro e w2 ⟨rfl, b2⟩
  rw [HB.out]
  have T2 := Lib.hid (T1.out.call b2)
  clear b2 T1
  go_wp2_with fail
  refine (areFrameErrors_any _ _ _ _ (HR.out.below T2.out.below) (by omega)).mono ?_
  rintro e w3 ⟨rfl, rfl⟩
  rw [HF.out]
  go_wp2
  go_ret2
  exact ⟨rfl, T2.out.below⟩
set_option linter.unusedSimpArgs false in
set_option linter.unusedVariables false in
set_option maxHeartbeats 4000000 in
set_option maxRecDepth 100000 in
theorem im_K0 (kind t m r s k t' m' r' s' k' : Int) (ao : Option Addr) (cap : Nat) (es : List Int) (w : World) (hr : Rd w ao es.length es) (hn : es.length ≤ 1000) (ha : isState t m r s k = true) (hb : isState t' m' r' s' k' = true) (hk : kindOk kind = true) (hf : frameErrs es = true) (h0 : kind = 0) : Calls Try.prog 39 #[.int .i64 kind, .agg #[.int .i64 t, .int .i64 m, .int .i64 r, .int .i64 s, .int .i64 k], .agg #[.int .i64 t', .int .i64 m', .int .i64 r', .int .i64 s', .int .i64 k'], .slice ao es.length cap] w (fun e w' => e = .returned (.tuple #[.bool (missed kind t m r s k t' m' r' s' k' es).1, .int .i64 (missed kind t m r s k t' m' r' s' k' es).2]) ∧ Below w.heap.size w w') := by
  rw [mi_K ha hb hk hf]
  simp only
  have hml : missedL kind t m r s k t' m' r' s' k' es = diffBits (stateBits t m r s k) (stateBits t' m' r' s' k') ++ es := by unfold missedL; rw [if_pos h0]
  rw [hml]
  subst h0
  have hbe := isBits_iff.1 (fe_parts hf).1
  have hsum := sum_states t m r s k t' m' r' s' k'
  have hdl : (diffBits (stateBits t m r s k) (stateBits t' m' r' s' k')).length = 64 := by rw [diff_len (by rw [stateBits_len, stateBits_len]), stateBits_len]
  have hdb := diff_bits (stateBits t m r s k) (stateBits t' m' r' s' k')
  have hl1 := stateBits_len t m r s k
  have hl2 := stateBits_len t' m' r' s' k'
  have hs1 := fun W => bitsOfState_any t m r s k W
  have hs2 := fun W => bitsOfState_any t' m' r' s' k' W
  generalize stateBits t m r s k = A at hsum hdl hdb hl1 hs1 ⊢
  generalize stateBits t' m' r' s' k' = B at hsum hdl hdb hl2 hs2 ⊢
  generalize diffBits A B = D at hsum hdl hdb ⊢
  have hbj : isBits (D ++ es) = true := isBits_iff.2 ⟨by rw [List.length_append]; omega, fun x hx => by
    rcases List.mem_append.1 hx with h | h
    · exact hdb x h
    · exact hbe.2 x h⟩
  have hsy := std_syndrome hbj
  have hjl : (D ++ es).length = 64 + es.length := by rw [List.length_append, hdl]
  generalize regOf stdG 0#24 (D ++ es) = R at hsy ⊢
  have HSUM := Lib.hid hsum; have HDL := Lib.hid hdl; have HL1 := Lib.hid hl1; have HL2 := Lib.hid hl2; have HS1 := Lib.hid hs1; have HS2 := Lib.hid hs2; have HSY := Lib.hid hsy; have HJL := Lib.hid hjl
  clear hml hbe hsum hdl hdb hl1 hl2 hs1 hs2 hbj hsy hjl
  have T0 := Lib.hid (TwoS.start (t := t) (m := m) (r := r) (s := s) (k := k) (t' := t') (m' := m') (r' := r') (s' := s') (k' := k') w)
  have HR := Lib.hid hr; clear hr
  have HA := Lib.hid ha; clear ha
  have HB := Lib.hid hb; clear hb
  have HK := Lib.hid hk; clear hk
  have HF := Lib.hid hf; clear hf
  go_enter Try.func39, Try.ntmps39
  go_upto_region 1 with fail
  generalize (w.alloc (.cells #[.int .i64 t, .int .i64 m, .int .i64 r, .int .i64 s, .int .i64 k] 33)).alloc (.cells #[.int .i64 t', .int .i64 m', .int .i64 r', .int .i64 s', .int .i64 k'] 33) = w0 at T0 ⊢
  obtain ⟨⟨c0, c1, c2, c3, c4⟩, ⟨d0, d1, d2, d3, d4⟩⟩ := T0.out.cells
  go_wp2_with fail
  refine (frameKindOf_any _ _).mono ?_
  rintro e w1 ⟨rfl, rfl⟩
  rw [HK.out]
  go_wp2_with fail
  clear c0 c1 c2 c3 c4 d0 d1 d2 d3 d4
  refine (isState_any _ _ _ _ _ _).mono ?_
  rintro e w1 ⟨rfl, b1⟩
  rw [HA.out]
  have T1 := Lib.hid (T0.out.call b1)
  clear b1 T0
  obtain ⟨⟨c0, c1, c2, c3, c4⟩, ⟨d0, d1, d2, d3, d4⟩⟩ := T1.out.cells
  go_wp2_with fail
  clear c0 c1 c2 c3 c4 d0 d1 d2 d3 d4
  refine (isState_any _ _ _ _ _ _).mono ?_
  rintro e w2 ⟨rfl, b2⟩
  rw [HB.out]
  have T2 := Lib.hid (T1.out.call b2)
  clear b2 T1
  go_wp2_with fail
  refine (areFrameErrors_any _ _ _ _ (HR.out.below T2.out.below) (by omega)).mono ?_
  rintro e w3 ⟨rfl, rfl⟩
  rw [HF.out]
  go_upto_region 9 with fail
  have T3 := Lib.hid (T2.out.call (Below.drew (Below.refl _ _)))
  refine wp_region_held_drew (S := fun w' => (w'.cell? ⟨w.heap.size, 0, none⟩ = some (.int .i64 t) ∧ w'.cell? ⟨w.heap.size, 1, none⟩ = some (.int .i64 m) ∧ w'.cell? ⟨w.heap.size, 2, none⟩ = some (.int .i64 r) ∧ w'.cell? ⟨w.heap.size, 3, none⟩ = some (.int .i64 s) ∧ w'.cell? ⟨w.heap.size, 4, none⟩ = some (.int .i64 k)) ∧ (w'.cell? ⟨w.heap.size + 1, 0, none⟩ = some (.int .i64 t') ∧ w'.cell? ⟨w.heap.size + 1, 1, none⟩ = some (.int .i64 m') ∧ w'.cell? ⟨w.heap.size + 1, 2, none⟩ = some (.int .i64 r') ∧ w'.cell? ⟨w.heap.size + 1, 3, none⟩ = some (.int .i64 s') ∧ w'.cell? ⟨w.heap.size + 1, 4, none⟩ = some (.int .i64 k'))) (by kernel_rfl) (TwoS.cells T3.out) (fun hHeld => ?_)
  generalize w2.drew = w3 at T3 hHeld ⊢
  refine wpAnyH_take (i := 0) (v := ?_) rfl (by kernel_rfl) (by kernel_rfl) (by kernel_rfl) (fun _ _ _ h => h) (Or.inl ⟨by rfl, ?_⟩) (by assumption) ?_
  rotate_left
  · (intro w hSw; (try dsimp only at hSw); go_simp; (try with_reducible rfl))
  try simp only [List.getElem_toArray, List.getElem_cons_succ, List.getElem_cons_zero, Act.put, List.setIfInBounds_toArray, List.set_cons_zero, List.set_cons_succ]
  refine wpAnyH_take (i := 2) (v := ?_) rfl (by kernel_rfl) (by kernel_rfl) (by kernel_rfl) (fun _ _ _ h => h) (Or.inl ⟨by rfl, ?_⟩) (by assumption) ?_
  rotate_left
  · (intro w hSw; (try dsimp only at hSw); go_simp; (try with_reducible rfl))
  try simp only [List.getElem_toArray, List.getElem_cons_succ, List.getElem_cons_zero, Act.put, List.setIfInBounds_toArray, List.set_cons_zero, List.set_cons_succ]
  refine wpAnyH_ready (rs := [1]) (by kernel_rfl) (by simp) (AllReadyH.cons rfl (fun K hK => ?_) AllReadyH.nil)
  go_simp
  refine (HS1.out _).mono ?_
  rintro e w4 m4
  obtain ⟨p4, c4, rfl, -, r4, b4⟩ := m4.get
  have T4 := Lib.hid (T3.out.call b4)
  have R4 := Lib.hid r4
  clear m4 b4 r4
  go_wp2_with fail
  refine hK.out _ _ ?_ (fun hHeld => ?_)
  · exact TwoS.cells T4.out
  clear hK K
  try simp only [List.getElem_toArray, List.getElem_cons_succ, List.getElem_cons_zero, Act.put, List.setIfInBounds_toArray, List.set_cons_zero, List.set_cons_succ]
  refine wpAnyH_ready (rs := [3]) (by kernel_rfl) (by simp) (AllReadyH.cons rfl (fun K hK => ?_) AllReadyH.nil)
  go_simp
  refine (HS2.out _).mono ?_
  rintro e w5 m5
  obtain ⟨p5, c5, rfl, -, r5, b5⟩ := m5.get
  have T5 := Lib.hid (T4.out.call b5)
  have R5 := Lib.hid r5
  replace R4 := Lib.hid (R4.out.below b5)
  clear m5 b5 r5
  go_wp2_with fail
  refine hK.out _ _ ?_ (fun hHeld => ?_)
  · exact TwoS.cells T5.out
  clear hK K
  try simp only [List.getElem_toArray, List.getElem_cons_succ, List.getElem_cons_zero, Act.put, List.setIfInBounds_toArray, List.set_cons_zero, List.set_cons_succ]
  refine wpAnyH_ready (rs := [4]) (by kernel_rfl) (by simp) (AllReadyH.cons rfl (fun K hK => ?_) AllReadyH.nil)
  go_simp
  refine (sumErrors_any _ _ _ _ _ _ A B _ R4.out R5.out (by have := HL1.out; omega) (by have := HL2.out; omega)).mono ?_
  rintro e w6 m6
  rw [HSUM.out] at m6
  change Makes2 2 _ D 0 _ _ at m6
  obtain ⟨p6, c6, rfl, -, r6, b6⟩ := m6.get
  rw [HDL.out] at r6 ⊢
  have T6 := Lib.hid (T5.out.call b6)
  have R6 := Lib.hid r6
  clear m6 b6 r6 R4 R5
  go_wp2_with fail
  refine hK.out _ _ ?_ (fun hHeld => ?_)
  · exact TwoS.cells T6.out
  clear hK K
  try simp only [List.getElem_toArray, List.getElem_cons_succ, List.getElem_cons_zero, Act.put, List.setIfInBounds_toArray, List.set_cons_zero, List.set_cons_succ]
  refine wpAnyH_take (i := 5) (v := ?_) rfl (by kernel_rfl) (by kernel_rfl) (by kernel_rfl) (fun _ _ _ h => h) (Or.inl ⟨by rfl, ?_⟩) (by assumption) ?_
  rotate_left
  · (intro w hSw; (try dsimp only at hSw); go_simp; (try with_reducible rfl))
  try simp only [List.getElem_toArray, List.getElem_cons_succ, List.getElem_cons_zero, Act.put, List.setIfInBounds_toArray, List.set_cons_zero, List.set_cons_succ]
  refine wpAnyH_take (i := 6) (v := ?_) rfl (by kernel_rfl) (by kernel_rfl) (by kernel_rfl) (fun _ _ _ h => h) (Or.inl ⟨by rfl, ?_⟩) (by assumption) ?_
  rotate_left
  · (intro w hSw; (try dsimp only at hSw); go_simp; (try with_reducible rfl))
  try simp only [List.getElem_toArray, List.getElem_cons_succ, List.getElem_cons_zero, Act.put, List.setIfInBounds_toArray, List.set_cons_zero, List.set_cons_succ]
  refine wpAnyH_take (i := 7) (v := ?_) rfl (by kernel_rfl) (by kernel_rfl) (by kernel_rfl) (fun _ _ _ h => h) (Or.inl ⟨by rfl, ?_⟩) (by assumption) ?_
  rotate_left
  · (intro w hSw; (try dsimp only at hSw); go_simp; (try with_reducible rfl))
  try simp only [List.getElem_toArray, List.getElem_cons_succ, List.getElem_cons_zero, Act.put, List.setIfInBounds_toArray, List.set_cons_zero, List.set_cons_succ]
  refine wpAnyH_take (i := 8) (v := ?_) rfl (by kernel_rfl) (by kernel_rfl) (by kernel_rfl) (fun _ _ _ h => h) (Or.inl ⟨by rfl, ?_⟩) (by assumption) ?_
  rotate_left
  · (intro w hSw; (try dsimp only at hSw); go_simp; (try with_reducible rfl))
  try simp only [List.getElem_toArray, List.getElem_cons_succ, List.getElem_cons_zero, Act.put, List.setIfInBounds_toArray, List.set_cons_zero, List.set_cons_succ]
  refine wpAnyH_take (i := 9) (v := ?_) rfl (by kernel_rfl) (by kernel_rfl) (by kernel_rfl) (fun _ _ _ h => h) (Or.inl ⟨by rfl, ?_⟩) (by assumption) ?_
  rotate_left
  · (intro w hSw; (try dsimp only at hSw); go_simp; (try with_reducible rfl))
  try simp only [List.getElem_toArray, List.getElem_cons_succ, List.getElem_cons_zero, Act.put, List.setIfInBounds_toArray, List.set_cons_zero, List.set_cons_succ]
  refine wpAnyH_done (by kernel_rfl) ?_ _
  clear T3 T4 T5
  go_wp2_with fail
  have hal := Below.alloc (Below.refl w6.heap.size w6) (Nat.le_refl _) (.cells #[.slice p6 64 c6, .slice ao es.length cap] 34)
  have hnew := heap_alloc_new w6 (.cells #[.slice p6 64 c6, .slice ao es.length cap] 34)
  have h0' : (w6.alloc (.cells #[.slice p6 64 c6, .slice ao es.length cap] 34)).cell? ⟨w6.heap.size, 0, none⟩ = some (.slice p6 64 c6) := cell_of_row _ _ 0 _ _ (0, 0) hnew
  have h1' : (w6.alloc (.cells #[.slice p6 64 c6, .slice ao es.length cap] 34)).cell? ⟨w6.heap.size, 1, none⟩ = some (.slice ao es.length cap) := cell_of_row _ _ 1 _ _ (0, 0) hnew
  have r6' := R6.out.below hal
  have rh' := (HR.out.below T6.out.below).below hal
  have Q6 := Lib.hid (T6.out.call hal)
  clear hal hnew R6 T6
  generalize w6.alloc (.cells #[.slice p6 64 c6, .slice ao es.length cap] 34) = w6a at h0' h1' r6' rh' Q6 ⊢
  have hcc := concat2_any _ p6 ao 64 es.length c6 cap D es _ h0' h1' r6' rh' (by omega) (by omega) (by omega)
  refine hcc.mono ?_
  rintro e w7 m7
  obtain ⟨p7, c7, rfl, -, r7, b7⟩ := m7.get
  generalize D ++ es = J at r7 HSY HJL ⊢
  have T7 := Lib.hid (Q6.out.call b7)
  have R7 := Lib.hid r7
  clear m7 b7 r7 hcc h0' h1' r6' rh' Q6
  go_wp2_with fail
  refine (standardCrc_any _).mono ?_
  rintro e w8 ⟨rfl, b8⟩
  have T8 := Lib.hid (T7.out.call b8)
  replace R7 := Lib.hid (R7.out.below b8)
  clear b8 T7
  go_wp2_with fail
  have hjl' := HJL.out
  refine (syndromeOf_any _ _ _ _ J _ R7.out (by omega)).mono ?_
  rintro e w9 ⟨rfl, b9⟩
  rw [HSY.out]
  simp only
  go_wp2
  go_ret2
  exact ⟨rfl, below_two T8.out.below b9⟩
set_option linter.unusedSimpArgs false in
set_option linter.unusedVariables false in
set_option maxHeartbeats 4000000 in
set_option maxRecDepth 100000 in
theorem im_K1 (kind t m r s k t' m' r' s' k' : Int) (ao : Option Addr) (cap : Nat) (es : List Int) (w : World) (hr : Rd w ao es.length es) (hn : es.length ≤ 1000) (ha : isState t m r s k = true) (hb : isState t' m' r' s' k' = true) (hk : kindOk kind = true) (hf : frameErrs es = true) (h0 : kind ≠ 0) : Calls Try.prog 39 #[.int .i64 kind, .agg #[.int .i64 t, .int .i64 m, .int .i64 r, .int .i64 s, .int .i64 k], .agg #[.int .i64 t', .int .i64 m', .int .i64 r', .int .i64 s', .int .i64 k'], .slice ao es.length cap] w (fun e w' => e = .returned (.tuple #[.bool (missed kind t m r s k t' m' r' s' k' es).1, .int .i64 (missed kind t m r s k t' m' r' s' k' es).2]) ∧ Below w.heap.size w w') := by
  rw [mi_K ha hb hk hf]
  simp only
  have hml : missedL kind t m r s k t' m' r' s' k' es = es := by unfold missedL; rw [if_neg h0]
  rw [hml]
  have hsy := std_syndrome (fe_parts hf).1
  generalize regOf stdG 0#24 es = R at hsy ⊢
  have HSY := Lib.hid hsy
  have t0 : (kind == 0) = false := by simp [h0]
  clear hml hsy h0
  have T0 := Lib.hid (TwoS.start (t := t) (m := m) (r := r) (s := s) (k := k) (t' := t') (m' := m') (r' := r') (s' := s') (k' := k') w)
  have HR := Lib.hid hr; clear hr
  have HA := Lib.hid ha; clear ha
  have HB := Lib.hid hb; clear hb
  have HK := Lib.hid hk; clear hk
  have HF := Lib.hid hf; clear hf
  go_enter Try.func39, Try.ntmps39
  go_upto_region 1 with fail
  generalize (w.alloc (.cells #[.int .i64 t, .int .i64 m, .int .i64 r, .int .i64 s, .int .i64 k] 33)).alloc (.cells #[.int .i64 t', .int .i64 m', .int .i64 r', .int .i64 s', .int .i64 k'] 33) = w0 at T0 ⊢
  obtain ⟨⟨c0, c1, c2, c3, c4⟩, ⟨d0, d1, d2, d3, d4⟩⟩ := T0.out.cells
  go_wp2_with fail
  refine (frameKindOf_any _ _).mono ?_
  rintro e w1 ⟨rfl, rfl⟩
  rw [HK.out]
  go_wp2_with fail
  clear c0 c1 c2 c3 c4 d0 d1 d2 d3 d4
  refine (isState_any _ _ _ _ _ _).mono ?_
  rintro e w1 ⟨rfl, b1⟩
  rw [HA.out]
  have T1 := Lib.hid (T0.out.call b1)
  clear b1 T0
  obtain ⟨⟨c0, c1, c2, c3, c4⟩, ⟨d0, d1, d2, d3, d4⟩⟩ := T1.out.cells
  go_wp2_with fail
  clear c0 c1 c2 c3 c4 d0 d1 d2 d3 d4
  refine (isState_any _ _ _ _ _ _).mono ?_
  rintro e w2 ⟨rfl, b2⟩
  rw [HB.out]
  have T2 := Lib.hid (T1.out.call b2)
  clear b2 T1
  go_wp2_with fail
  refine (areFrameErrors_any _ _ _ _ (HR.out.below T2.out.below) (by omega)).mono ?_
  rintro e w3 ⟨rfl, rfl⟩
  rw [HF.out]
  go_wp2_with fail
  refine (standardCrc_any _).mono ?_
  rintro e w4 ⟨rfl, b4⟩
  have T4 := Lib.hid (T2.out.call b4)
  clear b4 T2
  go_wp2_with fail
  refine (syndromeOf_any _ _ _ _ es _ (HR.out.below T4.out.below) (by omega)).mono ?_
  rintro e w5 ⟨rfl, b5⟩
  rw [HSY.out]
  simp only
  go_wp2
  go_ret2
  exact ⟨rfl, below_two T4.out.below b5⟩
theorem missedErrors_any (kind t m r s k t' m' r' s' k' : Int) (ao : Option Addr) (cap : Nat) (es : List Int) (w : World) (hr : Rd w ao es.length es) (hn : es.length ≤ 1000) : Calls Try.prog 39 #[.int .i64 kind, .agg #[.int .i64 t, .int .i64 m, .int .i64 r, .int .i64 s, .int .i64 k], .agg #[.int .i64 t', .int .i64 m', .int .i64 r', .int .i64 s', .int .i64 k'], .slice ao es.length cap] w (fun e w' => e = .returned (.tuple #[.bool (missed kind t m r s k t' m' r' s' k' es).1, .int .i64 (missed kind t m r s k t' m' r' s' k' es).2]) ∧ Below w.heap.size w w') := by
  rcases ha : isState t m r s k with _ | _
  · exact im_A _ _ _ _ _ _ _ _ _ _ _ _ _ _ _ hr hn ha
  rcases hb : isState t' m' r' s' k' with _ | _
  · exact im_A2 _ _ _ _ _ _ _ _ _ _ _ _ _ _ _ hr hn ha hb
  rcases hk : kindOk kind with _ | _
  · exact im_B _ _ _ _ _ _ _ _ _ _ _ _ _ _ _ hr hn ha hb hk
  rcases hf : frameErrs es with _ | _
  · exact im_C _ _ _ _ _ _ _ _ _ _ _ _ _ _ _ hr hn ha hb hk hf
  by_cases h0 : kind = 0
  · exact im_K0 _ _ _ _ _ _ _ _ _ _ _ _ _ _ _ hr hn ha hb hk hf h0
  · exact im_K1 _ _ _ _ _ _ _ _ _ _ _ _ _ _ _ hr hn ha hb hk hf h0
end Go.Proofs.Ytdcalkobcdeclaa
