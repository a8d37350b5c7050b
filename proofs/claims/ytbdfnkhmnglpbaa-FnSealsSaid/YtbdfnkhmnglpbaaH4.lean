/-
  Chapter 7: SealNumber and SealFrame of the model; SealSize of both.
-/
import Derived.Test.YtbdfnkhmnglpbaaH3
namespace Go.Proofs.Ytbdfnkhmnglpbaa
open Go.RowKit

set_option linter.unusedSimpArgs false in
set_option maxHeartbeats 1000000 in
set_option maxRecDepth 100000 in
theorem lc_1 (a q t m r s k id t' m' r' s' k' : Int) (ao : Option Addr) (cap : Nat) (xs : List Int) (w : World) (hr : Rd w ao xs.length xs) (hn : xs.length ≤ 1048576) (hf : isFrame ⟨a, q, t, m, r, s, k, xs⟩ = false) : Calls Try.prog 76 #[.agg #[.int .i64 a, .int .i64 q, .int .i64 t, .int .i64 m, .int .i64 r, .int .i64 s, .int .i64 k, .slice ao xs.length cap], .int .i64 id, .agg #[.int .i64 t', .int .i64 m', .int .i64 r', .int .i64 s', .int .i64 k']] w (fun e w' => e = .returned (.int .i64 (sealCode ⟨a, q, t, m, r, s, k, xs⟩ id t' m' r' s' k')) ∧ Below w.heap.size w w') := by
  have T0 := Lib.hid (Two.start (a := a) (q := q) (t := t) (m := m) (r := r) (s := s) (k := k) (v := .slice ao xs.length cap) (t' := t') (m' := m') (r' := r') (s' := s') (k' := k') w)
  have HR := Lib.hid hr; clear hr
  rw [sc_f hf]
  have HF := Lib.hid hf
  clear hf
  go_enter Try.func76, Try.ntmps76
  go_upto_region 1 with fail
  generalize (w.alloc (.cells #[.int .i64 a, .int .i64 q, .int .i64 t, .int .i64 m, .int .i64 r, .int .i64 s, .int .i64 k, .slice ao xs.length cap] 28)).alloc (.cells #[.int .i64 t', .int .i64 m', .int .i64 r', .int .i64 s', .int .i64 k'] 25) = w0 at T0 ⊢
  obtain ⟨⟨c0, c1, c2, c3, c4, c5, c6, c7⟩, d0, d1, d2, d3, d4⟩ := T0.out.all
  go_wp2_with fail
  clear c0 c1 c2 c3 c4 c5 c6 c7 d0 d1 d2 d3 d4
  refine (sIsFrame_any _ _ _ _ _ _ _ _ _ _ _ (HR.out.below T0.out.below) hn).mono ?_
  rintro e w1 ⟨rfl, b1⟩
  rw [HF.out]
  have T1 := Lib.hid (T0.out.call b1)
  clear b1 T0
  go_wp2
  go_ret
  exact ⟨rfl, T1.out.below⟩
set_option linter.unusedSimpArgs false in
set_option maxHeartbeats 1000000 in
set_option maxRecDepth 100000 in
theorem lc_2 (a q t m r s k id t' m' r' s' k' : Int) (ao : Option Addr) (cap : Nat) (xs : List Int) (w : World) (hr : Rd w ao xs.length xs) (hn : xs.length ≤ 1048576) (hf : isFrame ⟨a, q, t, m, r, s, k, xs⟩ = true) (hs : isState t' m' r' s' k' = false) : Calls Try.prog 76 #[.agg #[.int .i64 a, .int .i64 q, .int .i64 t, .int .i64 m, .int .i64 r, .int .i64 s, .int .i64 k, .slice ao xs.length cap], .int .i64 id, .agg #[.int .i64 t', .int .i64 m', .int .i64 r', .int .i64 s', .int .i64 k']] w (fun e w' => e = .returned (.int .i64 (sealCode ⟨a, q, t, m, r, s, k, xs⟩ id t' m' r' s' k')) ∧ Below w.heap.size w w') := by
  have T0 := Lib.hid (Two.start (a := a) (q := q) (t := t) (m := m) (r := r) (s := s) (k := k) (v := .slice ao xs.length cap) (t' := t') (m' := m') (r' := r') (s' := s') (k' := k') w)
  have HR := Lib.hid hr; clear hr
  rw [sc_s hs]
  have HF := Lib.hid hf; have HS := Lib.hid hs
  clear hf hs
  go_enter Try.func76, Try.ntmps76
  go_upto_region 1 with fail
  generalize (w.alloc (.cells #[.int .i64 a, .int .i64 q, .int .i64 t, .int .i64 m, .int .i64 r, .int .i64 s, .int .i64 k, .slice ao xs.length cap] 28)).alloc (.cells #[.int .i64 t', .int .i64 m', .int .i64 r', .int .i64 s', .int .i64 k'] 25) = w0 at T0 ⊢
  obtain ⟨⟨c0, c1, c2, c3, c4, c5, c6, c7⟩, d0, d1, d2, d3, d4⟩ := T0.out.all
  go_wp2_with fail
  clear c0 c1 c2 c3 c4 c5 c6 c7 d0 d1 d2 d3 d4
  refine (sIsFrame_any _ _ _ _ _ _ _ _ _ _ _ (HR.out.below T0.out.below) hn).mono ?_
  rintro e w1 ⟨rfl, b1⟩
  rw [HF.out]
  have T1 := Lib.hid (T0.out.call b1)
  clear b1 T0
  obtain ⟨-, d0, d1, d2, d3, d4⟩ := T1.out.all
  go_wp2_with fail
  clear d0 d1 d2 d3 d4
  refine (sIsState_any _ _ _ _ _ _).mono ?_
  rintro e w2 ⟨rfl, b2⟩
  rw [HS.out]
  have T2 := Lib.hid (T1.out.call b2)
  clear b2 T1
  go_wp2
  go_ret
  exact ⟨rfl, T2.out.below⟩
set_option linter.unusedSimpArgs false in
set_option maxHeartbeats 1000000 in
set_option maxRecDepth 100000 in
theorem lc_3 (a q t m r s k id t' m' r' s' k' : Int) (ao : Option Addr) (cap : Nat) (xs : List Int) (w : World) (hr : Rd w ao xs.length xs) (hn : xs.length ≤ 1048576) (hf : isFrame ⟨a, q, t, m, r, s, k, xs⟩ = true) (hs : isState t' m' r' s' k' = true) (hi : inRange 0 16777215 id = false) : Calls Try.prog 76 #[.agg #[.int .i64 a, .int .i64 q, .int .i64 t, .int .i64 m, .int .i64 r, .int .i64 s, .int .i64 k, .slice ao xs.length cap], .int .i64 id, .agg #[.int .i64 t', .int .i64 m', .int .i64 r', .int .i64 s', .int .i64 k']] w (fun e w' => e = .returned (.int .i64 (sealCode ⟨a, q, t, m, r, s, k, xs⟩ id t' m' r' s' k')) ∧ Below w.heap.size w w') := by
  have T0 := Lib.hid (Two.start (a := a) (q := q) (t := t) (m := m) (r := r) (s := s) (k := k) (v := .slice ao xs.length cap) (t' := t') (m' := m') (r' := r') (s' := s') (k' := k') w)
  have HR := Lib.hid hr; clear hr
  rw [sc_i hf hs hi]
  have HF := Lib.hid hf; have HS := Lib.hid hs; have HI := Lib.hid hi
  clear hf hs hi
  go_enter Try.func76, Try.ntmps76
  go_upto_region 1 with fail
  generalize (w.alloc (.cells #[.int .i64 a, .int .i64 q, .int .i64 t, .int .i64 m, .int .i64 r, .int .i64 s, .int .i64 k, .slice ao xs.length cap] 28)).alloc (.cells #[.int .i64 t', .int .i64 m', .int .i64 r', .int .i64 s', .int .i64 k'] 25) = w0 at T0 ⊢
  obtain ⟨⟨c0, c1, c2, c3, c4, c5, c6, c7⟩, d0, d1, d2, d3, d4⟩ := T0.out.all
  go_wp2_with fail
  clear c0 c1 c2 c3 c4 c5 c6 c7 d0 d1 d2 d3 d4
  refine (sIsFrame_any _ _ _ _ _ _ _ _ _ _ _ (HR.out.below T0.out.below) hn).mono ?_
  rintro e w1 ⟨rfl, b1⟩
  rw [HF.out]
  have T1 := Lib.hid (T0.out.call b1)
  clear b1 T0
  obtain ⟨-, d0, d1, d2, d3, d4⟩ := T1.out.all
  go_wp2_with fail
  clear d0 d1 d2 d3 d4
  refine (sIsState_any _ _ _ _ _ _).mono ?_
  rintro e w2 ⟨rfl, b2⟩
  rw [HS.out]
  have T2 := Lib.hid (T1.out.call b2)
  clear b2 T1
  go_wp2_with fail
  refine (l07Id_any _ _).mono ?_
  rintro e w2' ⟨rfl, rfl⟩
  rw [HI.out]
  go_wp2
  go_ret
  exact ⟨rfl, T2.out.below⟩
set_option linter.unusedSimpArgs false in
set_option maxHeartbeats 1000000 in
set_option maxRecDepth 100000 in
theorem lc_4 (a q t m r s k id t' m' r' s' k' : Int) (ao : Option Addr) (cap : Nat) (xs : List Int) (w : World) (hr : Rd w ao xs.length xs) (hn : xs.length ≤ 1048576) (hf : isFrame ⟨a, q, t, m, r, s, k, xs⟩ = true) (hs : isState t' m' r' s' k' = true) (hi : inRange 0 16777215 id = true) : Calls Try.prog 76 #[.agg #[.int .i64 a, .int .i64 q, .int .i64 t, .int .i64 m, .int .i64 r, .int .i64 s, .int .i64 k, .slice ao xs.length cap], .int .i64 id, .agg #[.int .i64 t', .int .i64 m', .int .i64 r', .int .i64 s', .int .i64 k']] w (fun e w' => e = .returned (.int .i64 (sealCode ⟨a, q, t, m, r, s, k, xs⟩ id t' m' r' s' k')) ∧ Below w.heap.size w w') := by
  have T0 := Lib.hid (Two.start (a := a) (q := q) (t := t) (m := m) (r := r) (s := s) (k := k) (v := .slice ao xs.length cap) (t' := t') (m' := m') (r' := r') (s' := s') (k' := k') w)
  have HR := Lib.hid hr; clear hr
  rw [sealCode_put hf hs hi]
  have HF := Lib.hid hf; have HS := Lib.hid hs; have HI := Lib.hid hi
  clear hf hs hi
  go_enter Try.func76, Try.ntmps76
  go_upto_region 1 with fail
  generalize (w.alloc (.cells #[.int .i64 a, .int .i64 q, .int .i64 t, .int .i64 m, .int .i64 r, .int .i64 s, .int .i64 k, .slice ao xs.length cap] 28)).alloc (.cells #[.int .i64 t', .int .i64 m', .int .i64 r', .int .i64 s', .int .i64 k'] 25) = w0 at T0 ⊢
  obtain ⟨⟨c0, c1, c2, c3, c4, c5, c6, c7⟩, d0, d1, d2, d3, d4⟩ := T0.out.all
  go_wp2_with fail
  clear c0 c1 c2 c3 c4 c5 c6 c7 d0 d1 d2 d3 d4
  refine (sIsFrame_any _ _ _ _ _ _ _ _ _ _ _ (HR.out.below T0.out.below) hn).mono ?_
  rintro e w1 ⟨rfl, b1⟩
  rw [HF.out]
  have T1 := Lib.hid (T0.out.call b1)
  clear b1 T0
  obtain ⟨-, d0, d1, d2, d3, d4⟩ := T1.out.all
  go_wp2_with fail
  clear d0 d1 d2 d3 d4
  refine (sIsState_any _ _ _ _ _ _).mono ?_
  rintro e w2 ⟨rfl, b2⟩
  rw [HS.out]
  have T2 := Lib.hid (T1.out.call b2)
  clear b2 T1
  go_wp2_with fail
  refine (l07Id_any _ _).mono ?_
  rintro e w2' ⟨rfl, rfl⟩
  rw [HI.out]
  go_wp2
  go_ret
  exact ⟨rfl, T2.out.below⟩
theorem l07Code_any (a q t m r s k id t' m' r' s' k' : Int) (ao : Option Addr) (cap : Nat) (xs : List Int) (w : World) (hr : Rd w ao xs.length xs) (hn : xs.length ≤ 1048576) : Calls Try.prog 76 #[.agg #[.int .i64 a, .int .i64 q, .int .i64 t, .int .i64 m, .int .i64 r, .int .i64 s, .int .i64 k, .slice ao xs.length cap], .int .i64 id, .agg #[.int .i64 t', .int .i64 m', .int .i64 r', .int .i64 s', .int .i64 k']] w (fun e w' => e = .returned (.int .i64 (sealCode ⟨a, q, t, m, r, s, k, xs⟩ id t' m' r' s' k')) ∧ Below w.heap.size w w') := by
  rcases hf : isFrame ⟨a, q, t, m, r, s, k, xs⟩ with _ | _
  · exact lc_1 _ _ _ _ _ _ _ _ _ _ _ _ _ _ _ _ _ hr hn hf
  rcases hs : isState t' m' r' s' k' with _ | _
  · exact lc_2 _ _ _ _ _ _ _ _ _ _ _ _ _ _ _ _ _ hr hn hf hs
  rcases hi : inRange 0 16777215 id with _ | _
  · exact lc_3 _ _ _ _ _ _ _ _ _ _ _ _ _ _ _ _ _ hr hn hf hs hi
  · exact lc_4 _ _ _ _ _ _ _ _ _ _ _ _ _ _ _ _ _ hr hn hf hs hi
set_option linter.unusedSimpArgs false in
set_option maxHeartbeats 1000000 in
set_option maxRecDepth 100000 in
theorem l07Seal_any (a q t m r s k id t' m' r' s' k' : Int) (ao : Option Addr) (cap : Nat) (xs : List Int) (w : World) (hr : Rd w ao xs.length xs) (hn : xs.length ≤ 1048576) (hf : isFrame ⟨a, q, t, m, r, s, k, xs⟩ = true) (hi : inRange 0 16777215 id = true) : Calls Try.prog 77 #[.agg #[.int .i64 a, .int .i64 q, .int .i64 t, .int .i64 m, .int .i64 r, .int .i64 s, .int .i64 k, .slice ao xs.length cap], .int .i64 id, .agg #[.int .i64 t', .int .i64 m', .int .i64 r', .int .i64 s', .int .i64 k']] w (Makes 2 w (frameBytes ⟨a, q, t, m, r, s, k, xs⟩ ++ three (sealNum a id t' m' r' s' k' (frameBytes ⟨a, q, t, m, r, s, k, xs⟩)))) := by
  have T0 := Lib.hid (Two.start (a := a) (q := q) (t := t) (m := m) (r := r) (s := s) (k := k) (v := .slice ao xs.length cap) (t' := t') (m' := m') (r' := r') (s' := s') (k' := k') w)
  have HR := Lib.hid hr; clear hr
  have hx := sealNum_in a id t' m' r' s' k' (frameBytes ⟨a, q, t, m, r, s, k, xs⟩)
  have hsm := frameBytes_small hf
  have hb := fun (W : World) (h : Rd W ao xs.length xs) => l06Body_any a q t m r s k ao cap xs W h hn hf
  obtain ⟨r0, hr0⟩ : ∃ r0, frameBytes ⟨a, q, t, m, r, s, k, xs⟩ = r0 := ⟨_, rfl⟩
  rw [hr0] at hx hsm hb ⊢
  have hnum := fun (p : Option Addr) (c : Nat) (W : World) (h : Rd W p r0.length r0) => l07Number_any a id t' m' r' s' k' p c r0 W (inRange_iff.1 hi) h (by omega)
  generalize sealNum a id t' m' r' s' k' r0 = x at hx hnum ⊢
  have HNUM := Lib.hid hnum; have HBO := Lib.hid hb; have HSM := Lib.hid hsm
  have q1 : IntKind.i64.wrap (x.tdiv 65536) = x / 65536 := by rw [Int.tdiv_eq_ediv_of_nonneg hx.1, IntKind.wrap_i64]; omega
  have q2 : IntKind.i64.wrap (x.tdiv 256) = x / 256 := by rw [Int.tdiv_eq_ediv_of_nonneg hx.1, IntKind.wrap_i64]; omega
  have q3 : (x / 256).tmod 256 = x / 256 % 256 := by rw [Int.tmod_eq_emod_of_nonneg (by omega)]
  have q4 : x.tmod 256 = x % 256 := by rw [Int.tmod_eq_emod_of_nonneg hx.1]
  obtain ⟨y0, e0⟩ : ∃ y, x / 65536 = y := ⟨_, rfl⟩
  obtain ⟨y1, e1⟩ : ∃ y, x / 256 = y := ⟨_, rfl⟩
  obtain ⟨y2, e2⟩ : ∃ y, y1 % 256 = y := ⟨_, rfl⟩
  obtain ⟨y3, e3⟩ : ∃ y, x % 256 = y := ⟨_, rfl⟩
  have h3 : three x = [y0, y2, y3] := by unfold three; rw [e0, e1, e2, e3]
  rw [e0] at q1; rw [e1] at q2 q3; rw [e2] at q3; rw [e3] at q4
  rw [h3]
  clear hx hsm hb hr0 hnum hf hi h3 e0 e1 e2 e3
  go_enter Try.func77, Try.ntmps77
  go_upto_region 1 with fail
  generalize (w.alloc (.cells #[.int .i64 a, .int .i64 q, .int .i64 t, .int .i64 m, .int .i64 r, .int .i64 s, .int .i64 k, .slice ao xs.length cap] 28)).alloc (.cells #[.int .i64 t', .int .i64 m', .int .i64 r', .int .i64 s', .int .i64 k'] 25) = w0 at T0 ⊢
  obtain ⟨⟨c0, c1, c2, c3, c4, c5, c6, c7⟩, d0, d1, d2, d3, d4⟩ := T0.out.all
  go_wp2_with fail
  clear c0 c1 c2 c3 c4 c5 c6 c7 d0 d1 d2 d3 d4
  refine (HBO.out _ (HR.out.below T0.out.below)).mono ?_
  rintro e w1 mm
  obtain ⟨p1, c1, rfl, o1, rr, b1⟩ := mm.get
  have T1 := Lib.hid (T0.out.call b1)
  have R1 := Lib.hid rr
  have O1 := Lib.hid (o1.more T0.out.below.size)
  clear mm o1 rr b1 T0
  obtain ⟨⟨c0, c1, c2, c3, c4, c5, c6, c7⟩, d0, d1, d2, d3, d4⟩ := T1.out.all
  go_wp2_with fail
  clear c0 c1 c2 c3 c4 c5 c6 c7 d0 d1 d2 d3 d4
  refine (HNUM.out _ _ _ R1.out).mono ?_
  rintro e w2 ⟨rfl, b2⟩
  have T2 := Lib.hid (T1.out.call b2)
  have O2 := Lib.hid (O1.out.below b2)
  clear b2 T1 O1 R1
  go_wp2_with (at_builtin; refine append_list _ rfl (.tmp 17) (.tmp 25) rfl w.heap.size Try.underlying26 info64 _ r0 rfl (O2.out.below ((Below.refl _ _).alloc (Nat.le_refl _) _)) _ _ _ [y0, y2, y3] rfl (rd_three y0 y2 y3 _) (by have := HSM.out; omega) (by have := T2.out.below.size; simp; omega) ?_; intro v3 w3 o3 b3)
  go_ret
  exact ⟨_, rfl, o3, (T2.out.below.alloc T2.out.below.size _).trans b3⟩
set_option linter.unusedSimpArgs false in
set_option maxHeartbeats 1000000 in
set_option maxRecDepth 100000 in
theorem sSealFrame_any (a q t m r s k id t' m' r' s' k' : Int) (ao : Option Addr) (cap : Nat) (xs : List Int) (w : World) (hr : Rd w ao xs.length xs) (hn : xs.length ≤ 1048576) : Calls Try.prog 21 #[.agg #[.int .i64 a, .int .i64 q, .int .i64 t, .int .i64 m, .int .i64 r, .int .i64 s, .int .i64 k, .slice ao xs.length cap], .int .i64 id, .agg #[.int .i64 t', .int .i64 m', .int .i64 r', .int .i64 s', .int .i64 k']] w (Makes2 2 w (sealFrame ⟨a, q, t, m, r, s, k, xs⟩ id t' m' r' s' k').1 (sealFrame ⟨a, q, t, m, r, s, k, xs⟩ id t' m' r' s' k').2) := by
  have T0 := Lib.hid (Two.start (a := a) (q := q) (t := t) (m := m) (r := r) (s := s) (k := k) (v := .slice ao xs.length cap) (t' := t') (m' := m') (r' := r') (s' := s') (k' := k') w)
  have HR := Lib.hid hr; clear hr
  obtain ⟨c, hc⟩ : ∃ c, sealCode ⟨a, q, t, m, r, s, k, xs⟩ id t' m' r' s' k' = c := ⟨_, rfl⟩
  by_cases h0 : c = 0
  · subst h0
    rw [sf_ok hc]
    simp only
    obtain ⟨hf, hs, hi⟩ := sealCode_0 hc
    have hse := fun (W : World) (h : Rd W ao xs.length xs) => l07Seal_any a q t m r s k id t' m' r' s' k' ao cap xs W h hn hf hi
    generalize frameBytes ⟨a, q, t, m, r, s, k, xs⟩ ++ three (sealNum a id t' m' r' s' k' (frameBytes ⟨a, q, t, m, r, s, k, xs⟩)) = out at hse ⊢
    have HSE := Lib.hid hse; have HC := Lib.hid hc
    clear hse hf hs hi hc
    go_enter Try.func21, Try.ntmps21
    go_upto_region 1 with fail
    generalize (w.alloc (.cells #[.int .i64 a, .int .i64 q, .int .i64 t, .int .i64 m, .int .i64 r, .int .i64 s, .int .i64 k, .slice ao xs.length cap] 28)).alloc (.cells #[.int .i64 t', .int .i64 m', .int .i64 r', .int .i64 s', .int .i64 k'] 25) = w0 at T0 ⊢
    obtain ⟨⟨c0, c1, c2, c3, c4, c5, c6, c7⟩, d0, d1, d2, d3, d4⟩ := T0.out.all
    go_wp2_with fail
    clear c0 c1 c2 c3 c4 c5 c6 c7 d0 d1 d2 d3 d4
    refine (l07Code_any _ _ _ _ _ _ _ _ _ _ _ _ _ _ _ _ _ (HR.out.below T0.out.below) hn).mono ?_
    rintro e w1 ⟨rfl, bb⟩
    rw [HC.out]
    have T1 := Lib.hid (T0.out.call bb)
    clear bb T0
    obtain ⟨⟨c0, c1, c2, c3, c4, c5, c6, c7⟩, d0, d1, d2, d3, d4⟩ := T1.out.all
    go_wp2_with fail
    clear c0 c1 c2 c3 c4 c5 c6 c7 d0 d1 d2 d3 d4
    refine (HSE.out _ (HR.out.below T1.out.below)).mono ?_
    rintro e w2 mm
    obtain ⟨p2, c2, rfl, o2, -, b2⟩ := mm.get
    have O2 := Lib.hid (o2.more T1.out.below.size)
    have B2 := Lib.hid (below_two T1.out.below b2)
    clear mm o2 b2
    go_wp2
    go_ret2
    exact ⟨_, rfl, O2.out, B2.out⟩
  · rw [sf_no hc h0]
    simp only
    have HC := Lib.hid hc
    have t1 : (c != 0) = true := by simp [h0]
    clear hc h0
    go_enter Try.func21, Try.ntmps21
    go_upto_region 1 with fail
    generalize (w.alloc (.cells #[.int .i64 a, .int .i64 q, .int .i64 t, .int .i64 m, .int .i64 r, .int .i64 s, .int .i64 k, .slice ao xs.length cap] 28)).alloc (.cells #[.int .i64 t', .int .i64 m', .int .i64 r', .int .i64 s', .int .i64 k'] 25) = w0 at T0 ⊢
    obtain ⟨⟨c0, c1, c2, c3, c4, c5, c6, c7⟩, d0, d1, d2, d3, d4⟩ := T0.out.all
    go_wp2_with fail
    clear c0 c1 c2 c3 c4 c5 c6 c7 d0 d1 d2 d3 d4
    refine (l07Code_any _ _ _ _ _ _ _ _ _ _ _ _ _ _ _ _ _ (HR.out.below T0.out.below) hn).mono ?_
    rintro e w1 ⟨rfl, bb⟩
    rw [HC.out]
    have T1 := Lib.hid (T0.out.call bb)
    clear bb T0
    go_wp2
    go_ret2
    exact ⟨_, rfl, Own.nil_, T1.out.below⟩
set_option linter.unusedSimpArgs false in
set_option maxHeartbeats 1000000 in
set_option maxRecDepth 100000 in
theorem sSealNumber_any (a q t m r s k id t' m' r' s' k' : Int) (ao : Option Addr) (cap : Nat) (xs : List Int) (w : World) (hr : Rd w ao xs.length xs) (hn : xs.length ≤ 1048576) : Calls Try.prog 23 #[.agg #[.int .i64 a, .int .i64 q, .int .i64 t, .int .i64 m, .int .i64 r, .int .i64 s, .int .i64 k, .slice ao xs.length cap], .int .i64 id, .agg #[.int .i64 t', .int .i64 m', .int .i64 r', .int .i64 s', .int .i64 k']] w (fun e w' => e = .returned (.tuple #[.int .i64 (sealNumber ⟨a, q, t, m, r, s, k, xs⟩ id t' m' r' s' k').1, .int .i64 (sealNumber ⟨a, q, t, m, r, s, k, xs⟩ id t' m' r' s' k').2]) ∧ Below w.heap.size w w') := by
  have T0 := Lib.hid (Two.start (a := a) (q := q) (t := t) (m := m) (r := r) (s := s) (k := k) (v := .slice ao xs.length cap) (t' := t') (m' := m') (r' := r') (s' := s') (k' := k') w)
  have HR := Lib.hid hr; clear hr
  obtain ⟨c, hc⟩ : ∃ c, sealCode ⟨a, q, t, m, r, s, k, xs⟩ id t' m' r' s' k' = c := ⟨_, rfl⟩
  by_cases h0 : c = 0
  · subst h0
    rw [sn_ok hc]
    simp only
    obtain ⟨hf, hs, hi⟩ := sealCode_0 hc
    have hsm := frameBytes_small hf
    have hb := fun (W : World) (h : Rd W ao xs.length xs) => l06Body_any a q t m r s k ao cap xs W h hn hf
    obtain ⟨r0, hr0⟩ : ∃ r0, frameBytes ⟨a, q, t, m, r, s, k, xs⟩ = r0 := ⟨_, rfl⟩
    rw [hr0] at hsm hb ⊢
    have hnum := fun (p : Option Addr) (c : Nat) (W : World) (h : Rd W p r0.length r0) => l07Number_any a id t' m' r' s' k' p c r0 W (inRange_iff.1 hi) h (by omega)
    generalize sealNum a id t' m' r' s' k' r0 = x at hnum ⊢
    have HNUM := Lib.hid hnum; have HBO := Lib.hid hb; have HC := Lib.hid hc
    clear hnum hb hsm hr0 hf hs hi hc
    go_enter Try.func23, Try.ntmps23
    go_upto_region 1 with fail
    generalize (w.alloc (.cells #[.int .i64 a, .int .i64 q, .int .i64 t, .int .i64 m, .int .i64 r, .int .i64 s, .int .i64 k, .slice ao xs.length cap] 28)).alloc (.cells #[.int .i64 t', .int .i64 m', .int .i64 r', .int .i64 s', .int .i64 k'] 25) = w0 at T0 ⊢
    obtain ⟨⟨c0, c1, c2, c3, c4, c5, c6, c7⟩, d0, d1, d2, d3, d4⟩ := T0.out.all
    go_wp2_with fail
    clear c0 c1 c2 c3 c4 c5 c6 c7 d0 d1 d2 d3 d4
    refine (l07Code_any _ _ _ _ _ _ _ _ _ _ _ _ _ _ _ _ _ (HR.out.below T0.out.below) hn).mono ?_
    rintro e w1 ⟨rfl, bb⟩
    rw [HC.out]
    have T1 := Lib.hid (T0.out.call bb)
    clear bb T0
    go_upto_region 4 with fail
    have T3 := Lib.hid T1.out.drew
    refine wp_region_held_drew (S := fun w' => (w'.cell? ⟨w.heap.size, 0, none⟩ = some (.int .i64 a) ∧ w'.cell? ⟨w.heap.size, 1, none⟩ = some (.int .i64 q) ∧ w'.cell? ⟨w.heap.size, 2, none⟩ = some (.int .i64 t) ∧ w'.cell? ⟨w.heap.size, 3, none⟩ = some (.int .i64 m) ∧ w'.cell? ⟨w.heap.size, 4, none⟩ = some (.int .i64 r) ∧ w'.cell? ⟨w.heap.size, 5, none⟩ = some (.int .i64 s) ∧ w'.cell? ⟨w.heap.size, 6, none⟩ = some (.int .i64 k) ∧ w'.cell? ⟨w.heap.size, 7, none⟩ = some (.slice ao xs.length cap)) ∧ w'.cell? ⟨w.heap.size + 1, 0, none⟩ = some (.int .i64 t') ∧ w'.cell? ⟨w.heap.size + 1, 1, none⟩ = some (.int .i64 m') ∧ w'.cell? ⟨w.heap.size + 1, 2, none⟩ = some (.int .i64 r') ∧ w'.cell? ⟨w.heap.size + 1, 3, none⟩ = some (.int .i64 s') ∧ w'.cell? ⟨w.heap.size + 1, 4, none⟩ = some (.int .i64 k')) (by kernel_rfl) (Two.all T3.out) (fun hHeld => ?_)
    refine wpAnyH_take (i := 0) (v := ?_) rfl (by kernel_rfl) (by kernel_rfl) (by kernel_rfl) (fun _ _ _ h => h) (Or.inl ⟨by rfl, ?_⟩) (by assumption) ?_
    rotate_left
    · (intro w hSw; (try dsimp only at hSw); go_simp; (try with_reducible rfl))
    try simp only [List.getElem_toArray, List.getElem_cons_succ, List.getElem_cons_zero, Act.put, List.setIfInBounds_toArray, List.set_cons_zero, List.set_cons_succ]
    refine wpAnyH_take (i := 1) (v := ?_) rfl (by kernel_rfl) (by kernel_rfl) (by kernel_rfl) (fun _ _ _ h => h) (Or.inl ⟨by rfl, ?_⟩) (by assumption) ?_
    rotate_left
    · (intro w hSw; (try dsimp only at hSw); go_simp; (try with_reducible rfl))
    try simp only [List.getElem_toArray, List.getElem_cons_succ, List.getElem_cons_zero, Act.put, List.setIfInBounds_toArray, List.set_cons_zero, List.set_cons_succ]
    refine wpAnyH_take (i := 2) (v := ?_) rfl (by kernel_rfl) (by kernel_rfl) (by kernel_rfl) (fun _ _ _ h => h) (Or.inl ⟨by rfl, ?_⟩) (by assumption) ?_
    rotate_left
    · (intro w hSw; (try dsimp only at hSw); go_simp; (try with_reducible rfl))
    try simp only [List.getElem_toArray, List.getElem_cons_succ, List.getElem_cons_zero, Act.put, List.setIfInBounds_toArray, List.set_cons_zero, List.set_cons_succ]
    refine wpAnyH_take (i := 4) (v := ?_) rfl (by kernel_rfl) (by kernel_rfl) (by kernel_rfl) (fun _ _ _ h => h) (Or.inl ⟨by rfl, ?_⟩) (by assumption) ?_
    rotate_left
    · (intro w hSw; (try dsimp only at hSw); go_simp; (try with_reducible rfl))
    try simp only [List.getElem_toArray, List.getElem_cons_succ, List.getElem_cons_zero, Act.put, List.setIfInBounds_toArray, List.set_cons_zero, List.set_cons_succ]
    refine wpAnyH_take (i := 5) (v := ?_) rfl (by kernel_rfl) (by kernel_rfl) (by kernel_rfl) (fun _ _ _ h => h) (Or.inl ⟨by rfl, ?_⟩) (by assumption) ?_
    rotate_left
    · (intro w hSw; (try dsimp only at hSw); go_simp; (try with_reducible rfl))
    try simp only [List.getElem_toArray, List.getElem_cons_succ, List.getElem_cons_zero, Act.put, List.setIfInBounds_toArray, List.set_cons_zero, List.set_cons_succ]
    refine wpAnyH_ready (rs := [3]) (by kernel_rfl) (by simp) (AllReadyH.cons rfl (fun K hK => ?_) AllReadyH.nil)
    go_simp
    refine (HBO.out _ (HR.out.below T3.out.below)).mono ?_
    rintro e w4 mm
    obtain ⟨p4, c4, rfl, -, rr, b4⟩ := mm.get
    have T4 := Lib.hid (T3.out.call b4)
    have R4 := Lib.hid rr
    clear mm rr b4
    go_wp2_with fail
    refine hK.out _ _ ?_ (fun hHeld => ?_)
    · exact Two.all T4.out
    clear hK K
    try simp only [List.getElem_toArray, List.getElem_cons_succ, List.getElem_cons_zero, Act.put, List.setIfInBounds_toArray, List.set_cons_zero, List.set_cons_succ]
    refine wpAnyH_ready (rs := [6]) (by kernel_rfl) (by simp) (AllReadyH.cons rfl (fun K hK => ?_) AllReadyH.nil)
    go_simp
    refine (HNUM.out _ _ _ R4.out).mono ?_
    rintro e w5 ⟨rfl, b5⟩
    have T5 := Lib.hid (T4.out.call b5)
    clear b5
    go_wp2_with fail
    refine hK.out _ _ ?_ (fun hHeld => ?_)
    · exact Two.all T5.out
    clear hK K
    try simp only [List.getElem_toArray, List.getElem_cons_succ, List.getElem_cons_zero, Act.put, List.setIfInBounds_toArray, List.set_cons_zero, List.set_cons_succ]
    refine wpAnyH_take (i := 7) (v := ?_) rfl (by kernel_rfl) (by kernel_rfl) (by kernel_rfl) (fun _ _ _ h => h) (Or.inl ⟨by rfl, ?_⟩) (by assumption) ?_
    rotate_left
    · (intro w hSw; (try dsimp only at hSw); go_simp; (try with_reducible rfl))
    try simp only [List.getElem_toArray, List.getElem_cons_succ, List.getElem_cons_zero, Act.put, List.setIfInBounds_toArray, List.set_cons_zero, List.set_cons_succ]
    refine wpAnyH_take (i := 8) (v := ?_) rfl (by kernel_rfl) (by kernel_rfl) (by kernel_rfl) (fun _ _ _ h => h) (Or.inl ⟨by rfl, ?_⟩) (by assumption) ?_
    rotate_left
    · (intro w hSw; (try dsimp only at hSw); go_simp; (try with_reducible rfl))
    try simp only [List.getElem_toArray, List.getElem_cons_succ, List.getElem_cons_zero, Act.put, List.setIfInBounds_toArray, List.set_cons_zero, List.set_cons_succ]
    refine wpAnyH_done (by kernel_rfl) ?_ _
    go_wp2
    go_ret2
    exact ⟨rfl, T5.out.below⟩
  · rw [sn_no hc h0]
    simp only
    have HC := Lib.hid hc
    have t1 : (c != 0) = true := by simp [h0]
    clear hc h0
    go_enter Try.func23, Try.ntmps23
    go_upto_region 1 with fail
    generalize (w.alloc (.cells #[.int .i64 a, .int .i64 q, .int .i64 t, .int .i64 m, .int .i64 r, .int .i64 s, .int .i64 k, .slice ao xs.length cap] 28)).alloc (.cells #[.int .i64 t', .int .i64 m', .int .i64 r', .int .i64 s', .int .i64 k'] 25) = w0 at T0 ⊢
    obtain ⟨⟨c0, c1, c2, c3, c4, c5, c6, c7⟩, d0, d1, d2, d3, d4⟩ := T0.out.all
    go_wp2_with fail
    clear c0 c1 c2 c3 c4 c5 c6 c7 d0 d1 d2 d3 d4
    refine (l07Code_any _ _ _ _ _ _ _ _ _ _ _ _ _ _ _ _ _ (HR.out.below T0.out.below) hn).mono ?_
    rintro e w1 ⟨rfl, bb⟩
    rw [HC.out]
    have T1 := Lib.hid (T0.out.call bb)
    clear bb T0
    go_wp2
    go_ret2
    exact ⟨rfl, T1.out.below⟩
theorem bodySize_in {a n z c : Int} (h : bodySize a n = (z, c)) : 0 ≤ z ∧ z ≤ 1000 := by
  unfold bodySize at h
  split at h
  · simp only [Prod.mk.injEq] at h; omega
  · split at h
    · simp only [Prod.mk.injEq] at h; omega
    · rename_i h2
      have := sizeOk_le (a := a) (n := n) (by simpa using h2)
      simp only [Prod.mk.injEq] at h
      obtain ⟨rfl, -⟩ := h
      split <;> split <;> omega
theorem sealSize_any (a n : Int) (w : World) : Calls Try.prog 26 #[.int .i64 a, .int .i64 n] w fun e w' => e = .returned (.tuple #[.int .i64 (sealSize a n).1, .int .i64 (sealSize a n).2]) ∧ Below w.heap.size w w' := by
  have hb := fun (W : World) => bodySize_any a n W
  obtain ⟨z, c, hz⟩ : ∃ z c, bodySize a n = (z, c) := ⟨_, _, rfl⟩
  have hin := bodySize_in hz
  unfold sealSize
  rw [hz] at hb ⊢
  simp only at hb ⊢
  have HBS := Lib.hid hb; clear hb hz
  by_cases h0 : c = 0
  · subst h0
    rw [if_pos rfl]
    have hw : IntKind.i64.wrap (z + 3) = z + 3 := by rw [IntKind.wrap_i64]; omega
    go_enter Try.func26, Try.ntmps26
    go_wp2_with fail
    refine (HBS.out _).mono ?_
    rintro e w1 ⟨rfl, b1⟩
    go_wp2
    go_ret2
    exact ⟨rfl, b1⟩
  · rw [if_neg h0]
    have t1 : (c != 0) = true := by simp [h0]
    go_enter Try.func26, Try.ntmps26
    go_wp2_with fail
    refine (HBS.out _).mono ?_
    rintro e w1 ⟨rfl, b1⟩
    go_wp2
    go_ret2
    exact ⟨rfl, b1⟩
end Go.Proofs.Ytbdfnkhmnglpbaa
