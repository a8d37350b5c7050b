/-
  Chapter 7: SealNumber and SealFrame of the program.
-/
import Derived.Test.YtbdfnkhmnglpbaaH2
import Derived.Test.YtbdfnkhmnglpbaaSixD
namespace Go.Proofs.Ytbdfnkhmnglpbaa
open Go.RowKit

/-- The frame and the state that a call lays first. -/
structure Two (w wi : World) (a q t m r s k : Int) (v : Value) (t' m' r' s' k' : Int) : Prop where
  fr : FrameAt 28 wi w.heap.size a q t m r s k v
  st : StateAt 25 wi (w.heap.size + 1) t' m' r' s' k'
  below : Below w.heap.size w wi
section
variable {w wi wj : World} {a q t m r s k : Int} {v : Value} {t' m' r' s' k' : Int}
theorem Two.call (h : Two w wi a q t m r s k v t' m' r' s' k') (b : Below wi.heap.size wi wj) : Two w wj a q t m r s k v t' m' r' s' k' := ⟨h.fr.below b h.fr.lt, h.st.below b h.st.lt, below_two h.below b⟩
theorem Two.drew (h : Two w wi a q t m r s k v t' m' r' s' k') : Two w wi.drew a q t m r s k v t' m' r' s' k' := h.call (Below.drew (Below.refl _ _))
theorem Two.cells (h : Two w wi a q t m r s k v t' m' r' s' k') : wi.cell? ⟨w.heap.size, 0, none⟩ = some (.int .i64 a) ∧ wi.cell? ⟨w.heap.size + 1, 0, none⟩ = some (.int .i64 t') ∧ wi.cell? ⟨w.heap.size + 1, 1, none⟩ = some (.int .i64 m') ∧ wi.cell? ⟨w.heap.size + 1, 2, none⟩ = some (.int .i64 r') ∧ wi.cell? ⟨w.heap.size + 1, 3, none⟩ = some (.int .i64 s') ∧ wi.cell? ⟨w.heap.size + 1, 4, none⟩ = some (.int .i64 k') := ⟨h.fr.c0, h.st.c0, h.st.c1, h.st.c2, h.st.c3, h.st.c4⟩
theorem Two.all (h : Two w wi a q t m r s k v t' m' r' s' k') : (wi.cell? ⟨w.heap.size, 0, none⟩ = some (.int .i64 a) ∧ wi.cell? ⟨w.heap.size, 1, none⟩ = some (.int .i64 q) ∧ wi.cell? ⟨w.heap.size, 2, none⟩ = some (.int .i64 t) ∧ wi.cell? ⟨w.heap.size, 3, none⟩ = some (.int .i64 m) ∧ wi.cell? ⟨w.heap.size, 4, none⟩ = some (.int .i64 r) ∧ wi.cell? ⟨w.heap.size, 5, none⟩ = some (.int .i64 s) ∧ wi.cell? ⟨w.heap.size, 6, none⟩ = some (.int .i64 k) ∧ wi.cell? ⟨w.heap.size, 7, none⟩ = some v) ∧ wi.cell? ⟨w.heap.size + 1, 0, none⟩ = some (.int .i64 t') ∧ wi.cell? ⟨w.heap.size + 1, 1, none⟩ = some (.int .i64 m') ∧ wi.cell? ⟨w.heap.size + 1, 2, none⟩ = some (.int .i64 r') ∧ wi.cell? ⟨w.heap.size + 1, 3, none⟩ = some (.int .i64 s') ∧ wi.cell? ⟨w.heap.size + 1, 4, none⟩ = some (.int .i64 k') := ⟨frame_cells h.fr, h.st.c0, h.st.c1, h.st.c2, h.st.c3, h.st.c4⟩
theorem Two.start (w : World) : Two w ((w.alloc (.cells #[.int .i64 a, .int .i64 q, .int .i64 t, .int .i64 m, .int .i64 r, .int .i64 s, .int .i64 k, v] 28)).alloc (.cells #[.int .i64 t', .int .i64 m', .int .i64 r', .int .i64 s', .int .i64 k'] 25)) a q t m r s k v t' m' r' s' k' := by
  have e1 : (w.alloc (.cells #[.int .i64 a, .int .i64 q, .int .i64 t, .int .i64 m, .int .i64 r, .int .i64 s, .int .i64 k, v] 28)).heap.size = w.heap.size + 1 := by simp
  have h0 : FrameAt 28 (w.alloc (.cells #[.int .i64 a, .int .i64 q, .int .i64 t, .int .i64 m, .int .i64 r, .int .i64 s, .int .i64 k, v] 28)) w.heap.size a q t m r s k v := FrameAt.new w
  have h1 : StateAt 25 ((w.alloc (.cells #[.int .i64 a, .int .i64 q, .int .i64 t, .int .i64 m, .int .i64 r, .int .i64 s, .int .i64 k, v] 28)).alloc (.cells #[.int .i64 t', .int .i64 m', .int .i64 r', .int .i64 s', .int .i64 k'] 25)) (w.alloc (.cells #[.int .i64 a, .int .i64 q, .int .i64 t, .int .i64 m, .int .i64 r, .int .i64 s, .int .i64 k, v] 28)).heap.size t' m' r' s' k' := StateAt.new _
  rw [e1] at h1
  exact ⟨h0.below (Below.alloc (Below.refl _ _) (Nat.le_refl _) _) h0.lt, h1, ((Below.refl _ _).alloc (Nat.le_refl _) _).alloc (by simp) _⟩
end
section
variable {f : Fr} {id t m r s k : Int}
theorem sc_f (h : isFrame f = false) : sealCode f id t m r s k = 1 := by unfold sealCode; rw [if_pos (.inl h)]
theorem sc_s (h : isState t m r s k = false) : sealCode f id t m r s k = 1 := by unfold sealCode; rw [if_pos (.inr h)]
theorem sc_i (h1 : isFrame f = true) (h2 : isState t m r s k = true) (h3 : inRange 0 16777215 id = false) : sealCode f id t m r s k = 2 := by unfold sealCode; rw [if_neg (by simp [h1, h2]), if_pos h3]
theorem sn_no {c : Int} (h : sealCode f id t m r s k = c) (hc : c ≠ 0) : sealNumber f id t m r s k = (0, c) := by unfold sealNumber; rw [if_neg (by rw [h]; exact hc), h]
theorem sn_ok (h : sealCode f id t m r s k = 0) : sealNumber f id t m r s k = (sealNum f.kind id t m r s k (frameBytes f), 0) := by unfold sealNumber; rw [if_pos h]
theorem sf_no {c : Int} (h : sealCode f id t m r s k = c) (hc : c ≠ 0) : sealFrame f id t m r s k = ([], c) := by unfold sealFrame; rw [if_neg (by rw [h]; exact hc), h]
theorem sf_ok (h : sealCode f id t m r s k = 0) : sealFrame f id t m r s k = (frameBytes f ++ three (sealNum f.kind id t m r s k (frameBytes f)), 0) := by unfold sealFrame; rw [if_pos h]
end
set_option linter.unusedSimpArgs false in
set_option maxHeartbeats 1000000 in
set_option maxRecDepth 100000 in
theorem sn_1 (a q t m r s k id t' m' r' s' k' : Int) (ao : Option Addr) (cap : Nat) (xs : List Int) (w : World) (hr : Rd w ao xs.length xs) (hn : xs.length ≤ 1048576) (hf : isFrame ⟨a, q, t, m, r, s, k, xs⟩ = false) : Calls Try.prog 22 #[.agg #[.int .i64 a, .int .i64 q, .int .i64 t, .int .i64 m, .int .i64 r, .int .i64 s, .int .i64 k, .slice ao xs.length cap], .int .i64 id, .agg #[.int .i64 t', .int .i64 m', .int .i64 r', .int .i64 s', .int .i64 k']] w (fun e w' => e = .returned (.tuple #[.int .i64 (sealNumber ⟨a, q, t, m, r, s, k, xs⟩ id t' m' r' s' k').1, .int .i64 (sealNumber ⟨a, q, t, m, r, s, k, xs⟩ id t' m' r' s' k').2]) ∧ Below w.heap.size w w') := by
  have T0 := Lib.hid (Two.start (a := a) (q := q) (t := t) (m := m) (r := r) (s := s) (k := k) (v := .slice ao xs.length cap) (t' := t') (m' := m') (r' := r') (s' := s') (k' := k') w)
  have HR := Lib.hid hr; clear hr
  rw [sn_no (sc_f hf) (by decide)]
  have HF := Lib.hid (body_no hf); clear hf
  go_enter Try.func22, Try.ntmps22
  go_upto_region 1 with fail
  generalize (w.alloc (.cells #[.int .i64 a, .int .i64 q, .int .i64 t, .int .i64 m, .int .i64 r, .int .i64 s, .int .i64 k, .slice ao xs.length cap] 28)).alloc (.cells #[.int .i64 t', .int .i64 m', .int .i64 r', .int .i64 s', .int .i64 k'] 25) = w0 at T0 ⊢
  obtain ⟨⟨c0, c1, c2, c3, c4, c5, c6, c7⟩, d0, d1, d2, d3, d4⟩ := T0.out.all
  go_wp2_with fail
  clear c0 c1 c2 c3 c4 c5 c6 c7 d0 d1 d2 d3 d4
  refine (frameBody_any _ _ _ _ _ _ _ _ _ _ _ (HR.out.below T0.out.below) hn).mono ?_
  rintro e w1 mm
  rw [HF.out] at mm
  change Makes2 2 _ [] 1 _ _ at mm
  obtain ⟨pp, cc, rfl, oo, rr, bb⟩ := mm.get
  have T1 := Lib.hid (T0.out.call bb)
  go_wp2
  go_ret2
  exact ⟨rfl, T1.out.below⟩
set_option linter.unusedSimpArgs false in
set_option maxHeartbeats 1000000 in
set_option maxRecDepth 100000 in
theorem sn_2 (a q t m r s k id t' m' r' s' k' : Int) (ao : Option Addr) (cap : Nat) (xs : List Int) (w : World) (hr : Rd w ao xs.length xs) (hn : xs.length ≤ 1048576) (hf : isFrame ⟨a, q, t, m, r, s, k, xs⟩ = true) (hs : isState t' m' r' s' k' = false) : Calls Try.prog 22 #[.agg #[.int .i64 a, .int .i64 q, .int .i64 t, .int .i64 m, .int .i64 r, .int .i64 s, .int .i64 k, .slice ao xs.length cap], .int .i64 id, .agg #[.int .i64 t', .int .i64 m', .int .i64 r', .int .i64 s', .int .i64 k']] w (fun e w' => e = .returned (.tuple #[.int .i64 (sealNumber ⟨a, q, t, m, r, s, k, xs⟩ id t' m' r' s' k').1, .int .i64 (sealNumber ⟨a, q, t, m, r, s, k, xs⟩ id t' m' r' s' k').2]) ∧ Below w.heap.size w w') := by
  have T0 := Lib.hid (Two.start (a := a) (q := q) (t := t) (m := m) (r := r) (s := s) (k := k) (v := .slice ao xs.length cap) (t' := t') (m' := m') (r' := r') (s' := s') (k' := k') w)
  have HR := Lib.hid hr; clear hr
  rw [sn_no (sc_s hs) (by decide)]
  have HF := Lib.hid (body_ok hf); have HS := Lib.hid hs
  generalize frameBytes ⟨a, q, t, m, r, s, k, xs⟩ = r0 at HF
  clear hf hs
  go_enter Try.func22, Try.ntmps22
  go_upto_region 1 with fail
  generalize (w.alloc (.cells #[.int .i64 a, .int .i64 q, .int .i64 t, .int .i64 m, .int .i64 r, .int .i64 s, .int .i64 k, .slice ao xs.length cap] 28)).alloc (.cells #[.int .i64 t', .int .i64 m', .int .i64 r', .int .i64 s', .int .i64 k'] 25) = w0 at T0 ⊢
  obtain ⟨⟨c0, c1, c2, c3, c4, c5, c6, c7⟩, d0, d1, d2, d3, d4⟩ := T0.out.all
  go_wp2_with fail
  clear c0 c1 c2 c3 c4 c5 c6 c7 d0 d1 d2 d3 d4
  refine (frameBody_any _ _ _ _ _ _ _ _ _ _ _ (HR.out.below T0.out.below) hn).mono ?_
  rintro e w1 mm
  rw [HF.out] at mm
  change Makes2 2 _ r0 0 _ _ at mm
  obtain ⟨pp, cc, rfl, oo, rr, bb⟩ := mm.get
  have T1 := Lib.hid (T0.out.call bb)
  have R1 := Lib.hid rr
  clear mm oo rr bb T0
  obtain ⟨-, d0, d1, d2, d3, d4⟩ := T1.out.all
  go_wp2_with fail
  clear d0 d1 d2 d3 d4
  refine (isState_any _ _ _ _ _ _).mono ?_
  rintro e w2 ⟨rfl, b2⟩
  rw [HS.out]
  have T2 := Lib.hid (T1.out.call b2); have R2 := Lib.hid (R1.out.below b2)
  clear b2 T1 R1
  go_wp2
  go_ret2
  exact ⟨rfl, T2.out.below⟩
set_option linter.unusedSimpArgs false in
set_option maxHeartbeats 1000000 in
set_option maxRecDepth 100000 in
theorem sn_3 (a q t m r s k id t' m' r' s' k' : Int) (ao : Option Addr) (cap : Nat) (xs : List Int) (w : World) (hr : Rd w ao xs.length xs) (hn : xs.length ≤ 1048576) (hf : isFrame ⟨a, q, t, m, r, s, k, xs⟩ = true) (hs : isState t' m' r' s' k' = true) (hi : inRange 0 16777215 id = false) : Calls Try.prog 22 #[.agg #[.int .i64 a, .int .i64 q, .int .i64 t, .int .i64 m, .int .i64 r, .int .i64 s, .int .i64 k, .slice ao xs.length cap], .int .i64 id, .agg #[.int .i64 t', .int .i64 m', .int .i64 r', .int .i64 s', .int .i64 k']] w (fun e w' => e = .returned (.tuple #[.int .i64 (sealNumber ⟨a, q, t, m, r, s, k, xs⟩ id t' m' r' s' k').1, .int .i64 (sealNumber ⟨a, q, t, m, r, s, k, xs⟩ id t' m' r' s' k').2]) ∧ Below w.heap.size w w') := by
  have T0 := Lib.hid (Two.start (a := a) (q := q) (t := t) (m := m) (r := r) (s := s) (k := k) (v := .slice ao xs.length cap) (t' := t') (m' := m') (r' := r') (s' := s') (k' := k') w)
  have HR := Lib.hid hr; clear hr
  rw [sn_no (sc_i hf hs hi) (by decide)]
  have HF := Lib.hid (body_ok hf); have HS := Lib.hid hs; have HI := Lib.hid hi
  generalize frameBytes ⟨a, q, t, m, r, s, k, xs⟩ = r0 at HF
  clear hf hs hi
  go_enter Try.func22, Try.ntmps22
  go_upto_region 1 with fail
  generalize (w.alloc (.cells #[.int .i64 a, .int .i64 q, .int .i64 t, .int .i64 m, .int .i64 r, .int .i64 s, .int .i64 k, .slice ao xs.length cap] 28)).alloc (.cells #[.int .i64 t', .int .i64 m', .int .i64 r', .int .i64 s', .int .i64 k'] 25) = w0 at T0 ⊢
  obtain ⟨⟨c0, c1, c2, c3, c4, c5, c6, c7⟩, d0, d1, d2, d3, d4⟩ := T0.out.all
  go_wp2_with fail
  clear c0 c1 c2 c3 c4 c5 c6 c7 d0 d1 d2 d3 d4
  refine (frameBody_any _ _ _ _ _ _ _ _ _ _ _ (HR.out.below T0.out.below) hn).mono ?_
  rintro e w1 mm
  rw [HF.out] at mm
  change Makes2 2 _ r0 0 _ _ at mm
  obtain ⟨pp, cc, rfl, oo, rr, bb⟩ := mm.get
  have T1 := Lib.hid (T0.out.call bb)
  have R1 := Lib.hid rr
  clear mm oo rr bb T0
  obtain ⟨-, d0, d1, d2, d3, d4⟩ := T1.out.all
  go_wp2_with fail
  clear d0 d1 d2 d3 d4
  refine (isState_any _ _ _ _ _ _).mono ?_
  rintro e w2 ⟨rfl, b2⟩
  rw [HS.out]
  have T2 := Lib.hid (T1.out.call b2); have R2 := Lib.hid (R1.out.below b2)
  clear b2 T1 R1
  go_wp2_with fail
  refine (isId_any _ _).mono ?_
  rintro e w2' ⟨rfl, rfl⟩
  rw [HI.out]
  go_wp2
  go_ret2
  exact ⟨rfl, T2.out.below⟩
set_option linter.unusedSimpArgs false in
set_option maxHeartbeats 1000000 in
set_option maxRecDepth 100000 in
theorem sn_4 (a q t m r s k id t' m' r' s' k' : Int) (ao : Option Addr) (cap : Nat) (xs : List Int) (w : World) (hr : Rd w ao xs.length xs) (hn : xs.length ≤ 1048576) (hf : isFrame ⟨a, q, t, m, r, s, k, xs⟩ = true) (hs : isState t' m' r' s' k' = true) (hi : inRange 0 16777215 id = true) : Calls Try.prog 22 #[.agg #[.int .i64 a, .int .i64 q, .int .i64 t, .int .i64 m, .int .i64 r, .int .i64 s, .int .i64 k, .slice ao xs.length cap], .int .i64 id, .agg #[.int .i64 t', .int .i64 m', .int .i64 r', .int .i64 s', .int .i64 k']] w (fun e w' => e = .returned (.tuple #[.int .i64 (sealNumber ⟨a, q, t, m, r, s, k, xs⟩ id t' m' r' s' k').1, .int .i64 (sealNumber ⟨a, q, t, m, r, s, k, xs⟩ id t' m' r' s' k').2]) ∧ Below w.heap.size w w') := by
  have T0 := Lib.hid (Two.start (a := a) (q := q) (t := t) (m := m) (r := r) (s := s) (k := k) (v := .slice ao xs.length cap) (t' := t') (m' := m') (r' := r') (s' := s') (k' := k') w)
  have HR := Lib.hid hr; clear hr
  rw [sn_ok (sealCode_put hf hs hi)]
  simp only
  have hid := inRange_iff.1 hi
  have hby := (isBytes_iff.1 (frameBytes_bytes hf)).2
  have hsm := frameBytes_small hf
  have HF := Lib.hid (body_ok hf); have HS := Lib.hid hs; have HI := Lib.hid hi
  generalize frameBytes ⟨a, q, t, m, r, s, k, xs⟩ = r0 at HF hby hsm ⊢
  have HBY := Lib.hid hby; have HSM := Lib.hid hsm; have HID := Lib.hid hid; clear hby hsm hid
  clear hf hs hi
  go_enter Try.func22, Try.ntmps22
  go_upto_region 1 with fail
  generalize (w.alloc (.cells #[.int .i64 a, .int .i64 q, .int .i64 t, .int .i64 m, .int .i64 r, .int .i64 s, .int .i64 k, .slice ao xs.length cap] 28)).alloc (.cells #[.int .i64 t', .int .i64 m', .int .i64 r', .int .i64 s', .int .i64 k'] 25) = w0 at T0 ⊢
  obtain ⟨⟨c0, c1, c2, c3, c4, c5, c6, c7⟩, d0, d1, d2, d3, d4⟩ := T0.out.all
  go_wp2_with fail
  clear c0 c1 c2 c3 c4 c5 c6 c7 d0 d1 d2 d3 d4
  refine (frameBody_any _ _ _ _ _ _ _ _ _ _ _ (HR.out.below T0.out.below) hn).mono ?_
  rintro e w1 mm
  rw [HF.out] at mm
  change Makes2 2 _ r0 0 _ _ at mm
  obtain ⟨pp, cc, rfl, oo, rr, bb⟩ := mm.get
  have T1 := Lib.hid (T0.out.call bb)
  have R1 := Lib.hid rr
  clear mm oo rr bb T0
  obtain ⟨-, d0, d1, d2, d3, d4⟩ := T1.out.all
  go_wp2_with fail
  clear d0 d1 d2 d3 d4
  refine (isState_any _ _ _ _ _ _).mono ?_
  rintro e w2 ⟨rfl, b2⟩
  rw [HS.out]
  have T2 := Lib.hid (T1.out.call b2); have R2 := Lib.hid (R1.out.below b2)
  clear b2 T1 R1
  go_wp2_with fail
  refine (isId_any _ _).mono ?_
  rintro e w2' ⟨rfl, rfl⟩
  rw [HI.out]
  go_upto_region 6 with fail
  have T3 := Lib.hid T2.out.drew; have R3 := Lib.hid (R2.out.below (Below.drew (Below.refl _ _)))
  refine wp_region_held_drew (S := fun w' => w'.cell? ⟨w.heap.size, 0, none⟩ = some (.int .i64 a) ∧ w'.cell? ⟨w.heap.size + 1, 0, none⟩ = some (.int .i64 t') ∧ w'.cell? ⟨w.heap.size + 1, 1, none⟩ = some (.int .i64 m') ∧ w'.cell? ⟨w.heap.size + 1, 2, none⟩ = some (.int .i64 r') ∧ w'.cell? ⟨w.heap.size + 1, 3, none⟩ = some (.int .i64 s') ∧ w'.cell? ⟨w.heap.size + 1, 4, none⟩ = some (.int .i64 k')) (by kernel_rfl) (Two.cells T3.out) (fun hHeld => ?_)
  refine wpAnyH_take (i := 0) (v := ?_) rfl (by kernel_rfl) (by kernel_rfl) (by kernel_rfl) (fun _ _ _ h => h) (Or.inl ⟨by rfl, ?_⟩) (by assumption) ?_
  rotate_left
  · (intro w hSw; (try dsimp only at hSw); go_simp; (try with_reducible rfl))
  try simp only [List.getElem_toArray, List.getElem_cons_succ, List.getElem_cons_zero, Act.put, List.setIfInBounds_toArray, List.set_cons_zero, List.set_cons_succ]
  refine wpAnyH_take (i := 1) (v := ?_) rfl (by kernel_rfl) (by kernel_rfl) (by kernel_rfl) (fun _ _ _ h => h) (Or.inl ⟨by rfl, ?_⟩) (by assumption) ?_
  rotate_left
  · (intro w hSw; (try dsimp only at hSw); go_simp; (try with_reducible rfl))
  try simp only [List.getElem_toArray, List.getElem_cons_succ, List.getElem_cons_zero, Act.put, List.setIfInBounds_toArray, List.set_cons_zero, List.set_cons_succ]
  refine wpAnyH_take (i := 3) (v := ?_) rfl (by kernel_rfl) (by kernel_rfl) (by kernel_rfl) (fun _ _ _ h => h) (Or.inl ⟨by rfl, ?_⟩) (by assumption) ?_
  rotate_left
  · (intro w hSw; (try dsimp only at hSw); go_simp; (try with_reducible rfl))
  try simp only [List.getElem_toArray, List.getElem_cons_succ, List.getElem_cons_zero, Act.put, List.setIfInBounds_toArray, List.set_cons_zero, List.set_cons_succ]
  refine wpAnyH_take (i := 4) (v := ?_) rfl (by kernel_rfl) (by kernel_rfl) (by kernel_rfl) (fun _ _ _ h => h) (Or.inl ⟨by rfl, ?_⟩) (by assumption) ?_
  rotate_left
  · (intro w hSw; (try dsimp only at hSw); go_simp; (try with_reducible rfl))
  try simp only [List.getElem_toArray, List.getElem_cons_succ, List.getElem_cons_zero, Act.put, List.setIfInBounds_toArray, List.set_cons_zero, List.set_cons_succ]
  refine wpAnyH_take (i := 5) (v := ?_) rfl (by kernel_rfl) (by kernel_rfl) (by kernel_rfl) (fun _ _ _ h => h) (Or.inl ⟨by rfl, ?_⟩) (by assumption) ?_
  rotate_left
  · (intro w hSw; (try dsimp only at hSw); go_simp; (try with_reducible rfl))
  try simp only [List.getElem_toArray, List.getElem_cons_succ, List.getElem_cons_zero, Act.put, List.setIfInBounds_toArray, List.set_cons_zero, List.set_cons_succ]
  refine wpAnyH_ready (rs := [2]) (by kernel_rfl) (by simp) (AllReadyH.cons rfl (fun K hK => ?_) AllReadyH.nil)
  go_simp
  refine (newSeal_any _ _ _ _ _ _ _).mono ?_
  rintro e w4 ⟨p4, rfl, hcy, b4⟩
  have T4 := Lib.hid (T3.out.call b4)
  have R4 := Lib.hid (R3.out.below b4)
  have CY := Lib.hid hcy
  clear hcy b4
  go_wp2_with fail
  refine hK.out _ _ ?_ (fun hHeld => ?_)
  · exact Two.cells T4.out
  clear hK K
  try simp only [List.getElem_toArray, List.getElem_cons_succ, List.getElem_cons_zero, Act.put, List.setIfInBounds_toArray, List.set_cons_zero, List.set_cons_succ]
  refine wpAnyH_ready (rs := [6]) (by kernel_rfl) (by simp) (AllReadyH.cons rfl (fun K hK => ?_) AllReadyH.nil)
  go_simp
  refine (check_any p4 id _ _ _ _ _ _ _ _ _ r0 _ HID.out CY.out R4.out (by have := HSM.out; omega) HBY.out).mono ?_
  rintro e w5 ⟨rfl, b5⟩
  have T5 := Lib.hid (T4.out.call b5)
  clear b5
  go_wp2_with fail
  refine hK.out _ _ ?_ (fun hHeld => ?_)
  · exact Two.cells T5.out
  clear hK K
  try simp only [List.getElem_toArray, List.getElem_cons_succ, List.getElem_cons_zero, Act.put, List.setIfInBounds_toArray, List.set_cons_zero, List.set_cons_succ]
  refine wpAnyH_take (i := 7) (v := ?_) rfl (by kernel_rfl) (by kernel_rfl) (by kernel_rfl) (fun _ _ _ h => h) (Or.inl ⟨by rfl, ?_⟩) (by assumption) ?_
  rotate_left
  · (intro w hSw; (try dsimp only at hSw); go_simp; (try with_reducible rfl))
  try simp only [List.getElem_toArray, List.getElem_cons_succ, List.getElem_cons_zero, Act.put, List.setIfInBounds_toArray, List.set_cons_zero, List.set_cons_succ]
  refine wpAnyH_take (i := 8) (v := ?_) rfl (by kernel_rfl) (by kernel_rfl) (by kernel_rfl) (fun _ _ _ h => h) (Or.inl ⟨by rfl, ?_⟩) (by assumption) ?_
  rotate_left
  · (intro w hSw; (try dsimp only at hSw); go_simp; (try with_reducible rfl))
  try simp only [List.getElem_toArray, List.getElem_cons_succ, List.getElem_cons_zero, Act.put, List.setIfInBounds_toArray, List.set_cons_zero, List.set_cons_succ]
  refine wpAnyH_done (by kernel_rfl) ?_ _
  go_wp2
  go_ret2
  exact ⟨rfl, T5.out.below⟩
theorem sealNumber_any (a q t m r s k id t' m' r' s' k' : Int) (ao : Option Addr) (cap : Nat) (xs : List Int) (w : World) (hr : Rd w ao xs.length xs) (hn : xs.length ≤ 1048576) : Calls Try.prog 22 #[.agg #[.int .i64 a, .int .i64 q, .int .i64 t, .int .i64 m, .int .i64 r, .int .i64 s, .int .i64 k, .slice ao xs.length cap], .int .i64 id, .agg #[.int .i64 t', .int .i64 m', .int .i64 r', .int .i64 s', .int .i64 k']] w (fun e w' => e = .returned (.tuple #[.int .i64 (sealNumber ⟨a, q, t, m, r, s, k, xs⟩ id t' m' r' s' k').1, .int .i64 (sealNumber ⟨a, q, t, m, r, s, k, xs⟩ id t' m' r' s' k').2]) ∧ Below w.heap.size w w') := by
  rcases hf : isFrame ⟨a, q, t, m, r, s, k, xs⟩ with _ | _
  · exact sn_1 _ _ _ _ _ _ _ _ _ _ _ _ _ _ _ _ _ hr hn hf
  rcases hs : isState t' m' r' s' k' with _ | _
  · exact sn_2 _ _ _ _ _ _ _ _ _ _ _ _ _ _ _ _ _ hr hn hf hs
  rcases hi : inRange 0 16777215 id with _ | _
  · exact sn_3 _ _ _ _ _ _ _ _ _ _ _ _ _ _ _ _ _ hr hn hf hs hi
  · exact sn_4 _ _ _ _ _ _ _ _ _ _ _ _ _ _ _ _ _ hr hn hf hs hi
set_option linter.unusedSimpArgs false in
set_option maxHeartbeats 1000000 in
set_option maxRecDepth 100000 in
theorem sealFrame_any (a q t m r s k id t' m' r' s' k' : Int) (ao : Option Addr) (cap : Nat) (xs : List Int) (w : World) (hr : Rd w ao xs.length xs) (hn : xs.length ≤ 1048576) : Calls Try.prog 20 #[.agg #[.int .i64 a, .int .i64 q, .int .i64 t, .int .i64 m, .int .i64 r, .int .i64 s, .int .i64 k, .slice ao xs.length cap], .int .i64 id, .agg #[.int .i64 t', .int .i64 m', .int .i64 r', .int .i64 s', .int .i64 k']] w (Makes2 2 w (sealFrame ⟨a, q, t, m, r, s, k, xs⟩ id t' m' r' s' k').1 (sealFrame ⟨a, q, t, m, r, s, k, xs⟩ id t' m' r' s' k').2) := by
  have T0 := Lib.hid (Two.start (a := a) (q := q) (t := t) (m := m) (r := r) (s := s) (k := k) (v := .slice ao xs.length cap) (t' := t') (m' := m') (r' := r') (s' := s') (k' := k') w)
  have HR := Lib.hid hr; clear hr
  obtain ⟨c, hc⟩ : ∃ c, sealCode ⟨a, q, t, m, r, s, k, xs⟩ id t' m' r' s' k' = c := ⟨_, rfl⟩
  by_cases h0 : c = 0
  · subst h0
    rw [sf_ok hc]
    simp only
    have hsn := sn_ok hc
    obtain ⟨hf, hs, hi⟩ := sealCode_0 hc
    have hsm := frameBytes_small hf
    have HF := Lib.hid (body_ok hf)
    have hx := sealNum_in a id t' m' r' s' k' (frameBytes ⟨a, q, t, m, r, s, k, xs⟩)
    simp only at hsn
    generalize sealNum a id t' m' r' s' k' (frameBytes ⟨a, q, t, m, r, s, k, xs⟩) = x at hsn hx ⊢
    generalize frameBytes ⟨a, q, t, m, r, s, k, xs⟩ = r0 at HF hsm ⊢
    have HN := Lib.hid hsn; have HX := Lib.hid hx; have HSM := Lib.hid hsm
    have HT := Lib.hid (three_len x)
    clear hsn hx hsm hf hs hi hc
    go_enter Try.func20, Try.ntmps20
    go_upto_region 1 with fail
    generalize (w.alloc (.cells #[.int .i64 a, .int .i64 q, .int .i64 t, .int .i64 m, .int .i64 r, .int .i64 s, .int .i64 k, .slice ao xs.length cap] 28)).alloc (.cells #[.int .i64 t', .int .i64 m', .int .i64 r', .int .i64 s', .int .i64 k'] 25) = w0 at T0 ⊢
    obtain ⟨⟨c0, c1, c2, c3, c4, c5, c6, c7⟩, d0, d1, d2, d3, d4⟩ := T0.out.all
    go_wp2_with fail
    clear c0 c1 c2 c3 c4 c5 c6 c7 d0 d1 d2 d3 d4
    refine (sealNumber_any _ _ _ _ _ _ _ _ _ _ _ _ _ _ _ _ _ (HR.out.below T0.out.below) hn).mono ?_
    rintro e w1 ⟨rfl, bb⟩
    rw [HN.out]
    simp only
    have T1 := Lib.hid (T0.out.call bb)
    clear bb T0
    obtain ⟨⟨c0, c1, c2, c3, c4, c5, c6, c7⟩, d0, d1, d2, d3, d4⟩ := T1.out.all
    go_wp2_with fail
    clear c0 c1 c2 c3 c4 c5 c6 c7 d0 d1 d2 d3 d4
    refine (frameBody_any _ _ _ _ _ _ _ _ _ _ _ (HR.out.below T1.out.below) hn).mono ?_
    rintro e w2 mm
    rw [HF.out] at mm
    change Makes2 2 _ r0 0 _ _ at mm
    obtain ⟨pp, cc, rfl, oo, rr, bb⟩ := mm.get
    have T2 := Lib.hid (T1.out.call bb)
    have hsz := T1.out.below.size
    have hsz2 := T2.out.below.size
    have O2 := Lib.hid (oo.more hsz)
    clear mm oo rr T1 hsz
    go_upto_region 5 with fail
    go_wp2_with (first
      | (go_at_call 75; refine (bytesOfCheck_any _ _ HX.out).mono ?_; rintro e w3 m3; obtain ⟨p3, c3, rfl, -, r3, b3⟩ := m3.get; have T3 := Lib.hid (T2.out.call b3); have O3 := Lib.hid (O2.out.below b3); have R3 := Lib.hid r3; clear m3 r3 b3)
      | (at_builtin; refine append_list _ rfl (.tmp 26) (.tmp 28) rfl w.heap.size Try.underlying26 info64 _ r0 rfl O3.out _ _ _ (three x) rfl R3.out (by have := HSM.out; have := HT.out; omega) T3.out.below.size ?_; intro v4 w4 o4 b4))
    go_ret2
    exact ⟨_, rfl, o4, T3.out.below.trans b4⟩
  · rw [sf_no hc h0]
    simp only
    have HN := Lib.hid (sn_no hc h0)
    have t1 : (c != 0) = true := by simp [h0]
    clear hc h0
    go_enter Try.func20, Try.ntmps20
    go_upto_region 1 with fail
    generalize (w.alloc (.cells #[.int .i64 a, .int .i64 q, .int .i64 t, .int .i64 m, .int .i64 r, .int .i64 s, .int .i64 k, .slice ao xs.length cap] 28)).alloc (.cells #[.int .i64 t', .int .i64 m', .int .i64 r', .int .i64 s', .int .i64 k'] 25) = w0 at T0 ⊢
    obtain ⟨⟨c0, c1, c2, c3, c4, c5, c6, c7⟩, d0, d1, d2, d3, d4⟩ := T0.out.all
    go_wp2_with fail
    clear c0 c1 c2 c3 c4 c5 c6 c7 d0 d1 d2 d3 d4
    refine (sealNumber_any _ _ _ _ _ _ _ _ _ _ _ _ _ _ _ _ _ (HR.out.below T0.out.below) hn).mono ?_
    rintro e w1 ⟨rfl, bb⟩
    rw [HN.out]
    simp only
    have T1 := Lib.hid (T0.out.call bb)
    clear bb T0
    go_wp2
    go_ret2
    exact ⟨_, rfl, Own.nil_, T1.out.below⟩
end Go.Proofs.Ytbdfnkhmnglpbaa
