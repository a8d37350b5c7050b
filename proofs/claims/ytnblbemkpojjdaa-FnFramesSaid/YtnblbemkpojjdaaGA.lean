/-
  Chapter 6: FrameBody of the program and of its model.
-/
import Derived.Test.YtnblbemkpojjdaaG9
namespace Go.Proofs.Ytnblbemkpojjdaa
open Go.RowKit

theorem head_or {a q : Int} (ha : 0 ≤ a ∧ a ≤ 3) (hq : 0 ≤ q ∧ q ≤ 7) : bits .or .i64 (a * 64) (q * 8) = a * 64 + q * 8 := by
  obtain ⟨a, rfl⟩ := Int.eq_ofNat_of_zero_le ha.1
  obtain ⟨q, rfl⟩ := Int.eq_ofNat_of_zero_le hq.1
  have h1 : a ≤ 3 := by omega
  have h2 : q ≤ 7 := by omega
  rw [show ((a : Nat) : Int) * 64 = ((a * 64 : Nat) : Int) from by omega, show ((q : Nat) : Int) * 8 = ((q * 8 : Nat) : Int) from by omega, or_nat _ _ (by omega) (by omega), ← Int.natCast_add]
  congr 1
  have key : ∀ a : Fin 4, ∀ q : Fin 8, a.val * 64 ||| q.val * 8 = a.val * 64 + q.val * 8 := by decide +kernel
  exact key ⟨a, by omega⟩ ⟨q, by omega⟩
/-- The body, as the walks build it. -/
theorem body_parts {a q t m r s k : Int} {xs : List Int} {x y : Bool} (hx : hasState a = x) (hy : hasData a = y) : frameBytes ⟨a, q, t, m, r, s, k, xs⟩ = [a * 64 + q * 8] ++ (if x = true then stBytes t m r s k else []) ++ (if y = true then [(xs.length : Int)] ++ xs else []) := by subst hx hy; rfl
theorem body_no {f : Fr} (h : isFrame f = false) : frameBody f = ([], 1) := by unfold frameBody; rw [if_neg (by simp [h])]
theorem body_ok {f : Fr} (h : isFrame f = true) : frameBody f = (frameBytes f, 0) := by unfold frameBody; rw [if_pos h]
/-- A frame in the block that the call laid first, and a list of the call's own that grows. -/
structure Built (w wi : World) (a q t m r s k : Int) (v z : Value) (zs : List Int) : Prop where
  box : FrameAt 28 wi w.heap.size a q t m r s k v
  below : Below w.heap.size w wi
  own : Own 2 wi (w.heap.size + 1) z zs
theorem Built.call {w wi wj : World} {a q t m r s k : Int} {v z : Value} {zs : List Int} (h : Built w wi a q t m r s k v z zs) (b : Below wi.heap.size wi wj) : Built w wj a q t m r s k v z zs := ⟨h.box.below b h.box.lt, below_two h.below b, h.own.below b⟩
theorem Built.app {w wi wj : World} {a q t m r s k : Int} {v z z' : Value} {zs zs' : List Int} (h : Built w wi a q t m r s k v z zs) (b : Below (w.heap.size + 1) wi wj) (o : Own 2 wj (w.heap.size + 1) z' zs') : Built w wj a q t m r s k v z' zs' := ⟨h.box.below b (Nat.lt_succ_self _), h.below.trans (b.mono (Nat.le_succ _)), o⟩
theorem Built.size {w wi : World} {a q t m r s k : Int} {v z : Value} {zs : List Int} (h : Built w wi a q t m r s k v z zs) : w.heap.size + 1 ≤ wi.heap.size := h.box.lt
theorem Built.lit {w wi : World} {a q t m r s k : Int} {v : Value} (x : Int) (h1 : FrameAt 28 wi w.heap.size a q t m r s k v) (h2 : Below w.heap.size w wi) : Built w (wi.alloc (.cells #[.int .i64 x] 2)) a q t m r s k v (.slice (some ⟨wi.heap.size, 0, none⟩) 1 1) [x] :=
  have b : Below wi.heap.size wi (wi.alloc (.cells #[.int .i64 x] 2)) := (Below.refl _ _).alloc (Nat.le_refl _) _
  ⟨h1.below b h1.lt, below_two h2 b, Own.of_alloc_one x h1.lt⟩
theorem Built.makes {w wi : World} {a q t m r s k : Int} {v z : Value} {zs : List Int} (h : Built w wi a q t m r s k v z zs) : Makes 2 w zs (.returned z) wi := ⟨z, rfl, h.own.more (Nat.le_succ _), h.below⟩
theorem Built.makes2 {w wi : World} {a q t m r s k c : Int} {v z : Value} {zs : List Int} (h : Built w wi a q t m r s k v z zs) : Makes2 2 w zs c (.returned (.tuple #[z, .int .i64 c])) wi := ⟨z, rfl, h.own.more (Nat.le_succ _), h.below⟩

set_option maxHeartbeats 1000000 in
set_option maxRecDepth 100000 in
theorem iBody00 (a q t m r s k : Int) (ao : Option Addr) (cap : Nat) (xs : List Int) (w : World) (hr : Rd w ao xs.length xs) (hn : xs.length ≤ 1048576) (hf : isFrame ⟨a, q, t, m, r, s, k, xs⟩ = true) (hx : hasState a = false) (hy : hasData a = false) : Calls Try.prog 14 #[.agg #[.int .i64 a, .int .i64 q, .int .i64 t, .int .i64 m, .int .i64 r, .int .i64 s, .int .i64 k, .slice ao xs.length cap]] w (Makes2 2 w (frameBytes ⟨a, q, t, m, r, s, k, xs⟩) 0) := by
  have hp := isFrame_parts hf
  simp only at hp
  have ha := inRange_iff.1 hp.1
  have hq := hp.2.1
  have hsz := sizeOk_le hp.2.2.2.1
  have hxl : xs.length ≤ 32 := by omega
  have hw1 : IntKind.i64.wrap (a * 64) = a * 64 := by rw [IntKind.wrap_i64]; omega
  have hw2 : IntKind.i64.wrap (q * 8) = q * 8 := by rw [IntKind.wrap_i64]; omega
  have hor := head_or ha hq
  have hb := body_parts (q := q) (t := t) (m := m) (r := r) (s := s) (k := k) (xs := xs) hx hy
  obtain ⟨hd, hhd⟩ : ∃ hd, a * 64 + q * 8 = hd := ⟨_, rfl⟩
  rw [hhd] at hor hb
  have hadd : wrap64 (a * 64 + q * 8) = hd := by rw [← hhd]; unfold wrap64; omega
  have hsl := stBytes_len t m r s k
  have hst := fun w => bytesOfState_any t m r s k w
  have hst2 := fun w => l04Bits_any t m r s k w
  have hst3 : bytesTo (stateBits t m r s k) ((stateBits t m r s k).length / 8) = stBytes t m r s k := by rw [stateBits_len]; rfl
  have hst4 := stateBits_len t m r s k
  have hst5 := stateBits_bits t m r s k
  generalize stateBits t m r s k = sb at hst2 hst3 hst4 hst5
  generalize stBytes t m r s k = st at hb hsl hst hst3
  have hb' : frameBytes ⟨a, q, t, m, r, s, k, xs⟩ = [hd] := by rw [hb]; simp
  rw [hb']
  have hne := hasState_ne hp.1
  rw [hx] at hne
  have HNE := Lib.hid hne; have HX := Lib.hid hx; have HY := Lib.hid hy; have HF := Lib.hid hf; have HSL := Lib.hid hsl; have HST := Lib.hid hst; have HS2 := Lib.hid hst2; have HS3 := Lib.hid hst3; have HS4 := Lib.hid hst4; have HS5 := Lib.hid hst5; have HHD := Lib.hid hhd; have HP := Lib.hid (show 0 ≤ a ∧ a ≤ 3 ∧ 0 ≤ q ∧ q ≤ 7 from by omega)
  clear hx hy hf hp hb hb' ha hq hsz hne hsl hst hst2 hst3 hst4 hst5 hhd
  have hb0 : Below w.heap.size w (w.alloc (.cells #[.int .i64 a, .int .i64 q, .int .i64 t, .int .i64 m, .int .i64 r, .int .i64 s, .int .i64 k, .slice ao xs.length cap] 28)) := (Below.refl _ _).alloc (Nat.le_refl _) _
  have HR := Lib.hid hr; clear hr
  go_enter Try.func14, Try.ntmps14
  go_wp2_with fail
  refine (isFrame_any _ _ _ _ _ _ _ _ _ _ _ (HR.out.below hb0) hn).mono ?_
  rintro e w1 ⟨rfl, b1⟩
  rw [HF.out]
  have A1 := Lib.hid (frame_new b1)
  have B1 := Lib.hid (below_box b1)
  clear b1 hb0
  have c0 := A1.out.c0
  have c1 := A1.out.c1
  have lA := A1.out.lt
  go_wp2_with fail
  clear c0 c1 lA
  refine (hasStateAndData_any _ _).mono ?_
  rintro e w1' ⟨rfl, rfl⟩
  rw [HX.out, HY.out]
  have K1 := Lib.hid (Built.lit hd A1.out B1.out)
  generalize w1.alloc (.cells #[.int .i64 hd] 2) = w2 at K1 ⊢
  clear A1 B1
  have l4 := K1.out.box.lt
  have c40 := K1.out.box.c0
  have c47 := K1.out.box.c7
  go_wp2
  have hz := K1.out.makes2 (c := 0)
  go_ret2
  exact hz
set_option maxHeartbeats 1000000 in
set_option maxRecDepth 100000 in
theorem iBody01 (a q t m r s k : Int) (ao : Option Addr) (cap : Nat) (xs : List Int) (w : World) (hr : Rd w ao xs.length xs) (hn : xs.length ≤ 1048576) (hf : isFrame ⟨a, q, t, m, r, s, k, xs⟩ = true) (hx : hasState a = false) (hy : hasData a = true) : Calls Try.prog 14 #[.agg #[.int .i64 a, .int .i64 q, .int .i64 t, .int .i64 m, .int .i64 r, .int .i64 s, .int .i64 k, .slice ao xs.length cap]] w (Makes2 2 w (frameBytes ⟨a, q, t, m, r, s, k, xs⟩) 0) := by
  have hp := isFrame_parts hf
  simp only at hp
  have ha := inRange_iff.1 hp.1
  have hq := hp.2.1
  have hsz := sizeOk_le hp.2.2.2.1
  have hxl : xs.length ≤ 32 := by omega
  have hw1 : IntKind.i64.wrap (a * 64) = a * 64 := by rw [IntKind.wrap_i64]; omega
  have hw2 : IntKind.i64.wrap (q * 8) = q * 8 := by rw [IntKind.wrap_i64]; omega
  have hor := head_or ha hq
  have hb := body_parts (q := q) (t := t) (m := m) (r := r) (s := s) (k := k) (xs := xs) hx hy
  obtain ⟨hd, hhd⟩ : ∃ hd, a * 64 + q * 8 = hd := ⟨_, rfl⟩
  rw [hhd] at hor hb
  have hadd : wrap64 (a * 64 + q * 8) = hd := by rw [← hhd]; unfold wrap64; omega
  have hsl := stBytes_len t m r s k
  have hst := fun w => bytesOfState_any t m r s k w
  have hst2 := fun w => l04Bits_any t m r s k w
  have hst3 : bytesTo (stateBits t m r s k) ((stateBits t m r s k).length / 8) = stBytes t m r s k := by rw [stateBits_len]; rfl
  have hst4 := stateBits_len t m r s k
  have hst5 := stateBits_bits t m r s k
  generalize stateBits t m r s k = sb at hst2 hst3 hst4 hst5
  generalize stBytes t m r s k = st at hb hsl hst hst3
  have hb' : frameBytes ⟨a, q, t, m, r, s, k, xs⟩ = [hd] ++ ([(xs.length : Int)] ++ xs) := by rw [hb]; simp
  rw [hb']
  have hne := hasState_ne hp.1
  rw [hx] at hne
  have HNE := Lib.hid hne; have HX := Lib.hid hx; have HY := Lib.hid hy; have HF := Lib.hid hf; have HSL := Lib.hid hsl; have HST := Lib.hid hst; have HS2 := Lib.hid hst2; have HS3 := Lib.hid hst3; have HS4 := Lib.hid hst4; have HS5 := Lib.hid hst5; have HHD := Lib.hid hhd; have HP := Lib.hid (show 0 ≤ a ∧ a ≤ 3 ∧ 0 ≤ q ∧ q ≤ 7 from by omega)
  clear hx hy hf hp hb hb' ha hq hsz hne hsl hst hst2 hst3 hst4 hst5 hhd
  have hb0 : Below w.heap.size w (w.alloc (.cells #[.int .i64 a, .int .i64 q, .int .i64 t, .int .i64 m, .int .i64 r, .int .i64 s, .int .i64 k, .slice ao xs.length cap] 28)) := (Below.refl _ _).alloc (Nat.le_refl _) _
  have HR := Lib.hid hr; clear hr
  go_enter Try.func14, Try.ntmps14
  go_wp2_with fail
  refine (isFrame_any _ _ _ _ _ _ _ _ _ _ _ (HR.out.below hb0) hn).mono ?_
  rintro e w1 ⟨rfl, b1⟩
  rw [HF.out]
  have A1 := Lib.hid (frame_new b1)
  have B1 := Lib.hid (below_box b1)
  clear b1 hb0
  have c0 := A1.out.c0
  have c1 := A1.out.c1
  have lA := A1.out.lt
  go_wp2_with fail
  clear c0 c1 lA
  refine (hasStateAndData_any _ _).mono ?_
  rintro e w1' ⟨rfl, rfl⟩
  rw [HX.out, HY.out]
  have K1 := Lib.hid (Built.lit hd A1.out B1.out)
  generalize w1.alloc (.cells #[.int .i64 hd] 2) = w2 at K1 ⊢
  clear A1 B1
  have l4 := K1.out.box.lt
  have c40 := K1.out.box.c0
  have c47 := K1.out.box.c7
  go_wp2_with (first
    | (at_builtin; refine append_one _ rfl (.tmp 31) (.tmp 35) rfl (w.heap.size + 1) Try.underlying26 info64 _ _ rfl (K1.out.own.below ((Below.refl _ _).alloc (Nat.le_refl _) _)) _ _ _ rfl (new_cell rfl) (by have := HSL.out; simp <;> omega) (by have := K1.out.size; simp; omega) ?_; intro v5 w5 o5 b5; have K5 := Lib.hid ((K1.out.call ((Below.refl _ _).alloc (Nat.le_refl _) _)).app b5 o5); clear o5 b5; have l5 := K5.out.box.lt; have c57 := K5.out.box.c7)
    | (at_builtin; refine append_list _ rfl (.tmp 37) (.tmp 39) rfl (w.heap.size + 1) Try.underlying26 info64 _ _ rfl K5.out.own _ _ _ xs rfl (HR.out.below K5.out.below) (by have := HSL.out; simp; omega) K5.out.size ?_; intro v6 w6 o6 b6; have K6 := Lib.hid (K5.out.app b6 o6); clear o6 b6))
  have hz := K6.out.makes2 (c := 0)
  rw [List.append_assoc] at hz
  go_ret2
  exact hz
set_option maxHeartbeats 1000000 in
set_option maxRecDepth 100000 in
theorem iBody10 (a q t m r s k : Int) (ao : Option Addr) (cap : Nat) (xs : List Int) (w : World) (hr : Rd w ao xs.length xs) (hn : xs.length ≤ 1048576) (hf : isFrame ⟨a, q, t, m, r, s, k, xs⟩ = true) (hx : hasState a = true) (hy : hasData a = false) : Calls Try.prog 14 #[.agg #[.int .i64 a, .int .i64 q, .int .i64 t, .int .i64 m, .int .i64 r, .int .i64 s, .int .i64 k, .slice ao xs.length cap]] w (Makes2 2 w (frameBytes ⟨a, q, t, m, r, s, k, xs⟩) 0) := by
  have hp := isFrame_parts hf
  simp only at hp
  have ha := inRange_iff.1 hp.1
  have hq := hp.2.1
  have hsz := sizeOk_le hp.2.2.2.1
  have hxl : xs.length ≤ 32 := by omega
  have hw1 : IntKind.i64.wrap (a * 64) = a * 64 := by rw [IntKind.wrap_i64]; omega
  have hw2 : IntKind.i64.wrap (q * 8) = q * 8 := by rw [IntKind.wrap_i64]; omega
  have hor := head_or ha hq
  have hb := body_parts (q := q) (t := t) (m := m) (r := r) (s := s) (k := k) (xs := xs) hx hy
  obtain ⟨hd, hhd⟩ : ∃ hd, a * 64 + q * 8 = hd := ⟨_, rfl⟩
  rw [hhd] at hor hb
  have hadd : wrap64 (a * 64 + q * 8) = hd := by rw [← hhd]; unfold wrap64; omega
  have hsl := stBytes_len t m r s k
  have hst := fun w => bytesOfState_any t m r s k w
  have hst2 := fun w => l04Bits_any t m r s k w
  have hst3 : bytesTo (stateBits t m r s k) ((stateBits t m r s k).length / 8) = stBytes t m r s k := by rw [stateBits_len]; rfl
  have hst4 := stateBits_len t m r s k
  have hst5 := stateBits_bits t m r s k
  generalize stateBits t m r s k = sb at hst2 hst3 hst4 hst5
  generalize stBytes t m r s k = st at hb hsl hst hst3
  have hb' : frameBytes ⟨a, q, t, m, r, s, k, xs⟩ = [hd] ++ st := by rw [hb]; simp
  rw [hb']
  have hne := hasState_ne hp.1
  rw [hx] at hne
  have HNE := Lib.hid hne; have HX := Lib.hid hx; have HY := Lib.hid hy; have HF := Lib.hid hf; have HSL := Lib.hid hsl; have HST := Lib.hid hst; have HS2 := Lib.hid hst2; have HS3 := Lib.hid hst3; have HS4 := Lib.hid hst4; have HS5 := Lib.hid hst5; have HHD := Lib.hid hhd; have HP := Lib.hid (show 0 ≤ a ∧ a ≤ 3 ∧ 0 ≤ q ∧ q ≤ 7 from by omega)
  clear hx hy hf hp hb hb' ha hq hsz hne hsl hst hst2 hst3 hst4 hst5 hhd
  have hb0 : Below w.heap.size w (w.alloc (.cells #[.int .i64 a, .int .i64 q, .int .i64 t, .int .i64 m, .int .i64 r, .int .i64 s, .int .i64 k, .slice ao xs.length cap] 28)) := (Below.refl _ _).alloc (Nat.le_refl _) _
  have HR := Lib.hid hr; clear hr
  go_enter Try.func14, Try.ntmps14
  go_wp2_with fail
  refine (isFrame_any _ _ _ _ _ _ _ _ _ _ _ (HR.out.below hb0) hn).mono ?_
  rintro e w1 ⟨rfl, b1⟩
  rw [HF.out]
  have A1 := Lib.hid (frame_new b1)
  have B1 := Lib.hid (below_box b1)
  clear b1 hb0
  have c0 := A1.out.c0
  have c1 := A1.out.c1
  have lA := A1.out.lt
  go_wp2_with fail
  clear c0 c1 lA
  refine (hasStateAndData_any _ _).mono ?_
  rintro e w1' ⟨rfl, rfl⟩
  rw [HX.out, HY.out]
  have K1 := Lib.hid (Built.lit hd A1.out B1.out)
  generalize w1.alloc (.cells #[.int .i64 hd] 2) = w2 at K1 ⊢
  clear A1 B1
  have c2 := K1.out.box.c2
  have c3 := K1.out.box.c3
  have c4 := K1.out.box.c4
  have c5 := K1.out.box.c5
  have c6 := K1.out.box.c6
  go_wp2_with fail
  clear c2 c3 c4 c5 c6
  refine (HST.out _).mono ?_
  rintro e w3 m3
  obtain ⟨p3, c3, rfl, -, r3, b3⟩ := m3.get
  have K2 := Lib.hid (K1.out.call b3)
  have R3 := Lib.hid r3
  clear m3 r3 b3 K1
  go_wp2_with (first
    | (at_builtin; refine append_list _ rfl (.tmp 25) (.tmp 28) rfl (w.heap.size + 1) Try.underlying26 info64 _ [hd] rfl K2.out.own _ _ _ st rfl R3.out (by have := HSL.out; simp; omega) K2.out.size ?_; intro v4 w4 o4 b4; have K4 := Lib.hid (K2.out.app b4 o4); clear o4 b4; have l4 := K4.out.box.lt; have c40 := K4.out.box.c0; have c47 := K4.out.box.c7))
  have hz := K4.out.makes2 (c := 0)
  go_ret2
  exact hz
set_option maxHeartbeats 1000000 in
set_option maxRecDepth 100000 in
theorem iBody11 (a q t m r s k : Int) (ao : Option Addr) (cap : Nat) (xs : List Int) (w : World) (hr : Rd w ao xs.length xs) (hn : xs.length ≤ 1048576) (hf : isFrame ⟨a, q, t, m, r, s, k, xs⟩ = true) (hx : hasState a = true) (hy : hasData a = true) : Calls Try.prog 14 #[.agg #[.int .i64 a, .int .i64 q, .int .i64 t, .int .i64 m, .int .i64 r, .int .i64 s, .int .i64 k, .slice ao xs.length cap]] w (Makes2 2 w (frameBytes ⟨a, q, t, m, r, s, k, xs⟩) 0) := by
  have hp := isFrame_parts hf
  simp only at hp
  have ha := inRange_iff.1 hp.1
  have hq := hp.2.1
  have hsz := sizeOk_le hp.2.2.2.1
  have hxl : xs.length ≤ 32 := by omega
  have hw1 : IntKind.i64.wrap (a * 64) = a * 64 := by rw [IntKind.wrap_i64]; omega
  have hw2 : IntKind.i64.wrap (q * 8) = q * 8 := by rw [IntKind.wrap_i64]; omega
  have hor := head_or ha hq
  have hb := body_parts (q := q) (t := t) (m := m) (r := r) (s := s) (k := k) (xs := xs) hx hy
  obtain ⟨hd, hhd⟩ : ∃ hd, a * 64 + q * 8 = hd := ⟨_, rfl⟩
  rw [hhd] at hor hb
  have hadd : wrap64 (a * 64 + q * 8) = hd := by rw [← hhd]; unfold wrap64; omega
  have hsl := stBytes_len t m r s k
  have hst := fun w => bytesOfState_any t m r s k w
  have hst2 := fun w => l04Bits_any t m r s k w
  have hst3 : bytesTo (stateBits t m r s k) ((stateBits t m r s k).length / 8) = stBytes t m r s k := by rw [stateBits_len]; rfl
  have hst4 := stateBits_len t m r s k
  have hst5 := stateBits_bits t m r s k
  generalize stateBits t m r s k = sb at hst2 hst3 hst4 hst5
  generalize stBytes t m r s k = st at hb hsl hst hst3
  have hb' : frameBytes ⟨a, q, t, m, r, s, k, xs⟩ = [hd] ++ st ++ ([(xs.length : Int)] ++ xs) := by rw [hb]; simp
  rw [hb']
  have hne := hasState_ne hp.1
  rw [hx] at hne
  have HNE := Lib.hid hne; have HX := Lib.hid hx; have HY := Lib.hid hy; have HF := Lib.hid hf; have HSL := Lib.hid hsl; have HST := Lib.hid hst; have HS2 := Lib.hid hst2; have HS3 := Lib.hid hst3; have HS4 := Lib.hid hst4; have HS5 := Lib.hid hst5; have HHD := Lib.hid hhd; have HP := Lib.hid (show 0 ≤ a ∧ a ≤ 3 ∧ 0 ≤ q ∧ q ≤ 7 from by omega)
  clear hx hy hf hp hb hb' ha hq hsz hne hsl hst hst2 hst3 hst4 hst5 hhd
  have hb0 : Below w.heap.size w (w.alloc (.cells #[.int .i64 a, .int .i64 q, .int .i64 t, .int .i64 m, .int .i64 r, .int .i64 s, .int .i64 k, .slice ao xs.length cap] 28)) := (Below.refl _ _).alloc (Nat.le_refl _) _
  have HR := Lib.hid hr; clear hr
  go_enter Try.func14, Try.ntmps14
  go_wp2_with fail
  refine (isFrame_any _ _ _ _ _ _ _ _ _ _ _ (HR.out.below hb0) hn).mono ?_
  rintro e w1 ⟨rfl, b1⟩
  rw [HF.out]
  have A1 := Lib.hid (frame_new b1)
  have B1 := Lib.hid (below_box b1)
  clear b1 hb0
  have c0 := A1.out.c0
  have c1 := A1.out.c1
  have lA := A1.out.lt
  go_wp2_with fail
  clear c0 c1 lA
  refine (hasStateAndData_any _ _).mono ?_
  rintro e w1' ⟨rfl, rfl⟩
  rw [HX.out, HY.out]
  have K1 := Lib.hid (Built.lit hd A1.out B1.out)
  generalize w1.alloc (.cells #[.int .i64 hd] 2) = w2 at K1 ⊢
  clear A1 B1
  have c2 := K1.out.box.c2
  have c3 := K1.out.box.c3
  have c4 := K1.out.box.c4
  have c5 := K1.out.box.c5
  have c6 := K1.out.box.c6
  go_wp2_with fail
  clear c2 c3 c4 c5 c6
  refine (HST.out _).mono ?_
  rintro e w3 m3
  obtain ⟨p3, c3, rfl, -, r3, b3⟩ := m3.get
  have K2 := Lib.hid (K1.out.call b3)
  have R3 := Lib.hid r3
  clear m3 r3 b3 K1
  go_wp2_with (first
    | (at_builtin; refine append_list _ rfl (.tmp 25) (.tmp 28) rfl (w.heap.size + 1) Try.underlying26 info64 _ [hd] rfl K2.out.own _ _ _ st rfl R3.out (by have := HSL.out; simp; omega) K2.out.size ?_; intro v4 w4 o4 b4; have K4 := Lib.hid (K2.out.app b4 o4); clear o4 b4; have l4 := K4.out.box.lt; have c40 := K4.out.box.c0; have c47 := K4.out.box.c7)
    | (at_builtin; refine append_one _ rfl (.tmp 31) (.tmp 35) rfl (w.heap.size + 1) Try.underlying26 info64 _ _ rfl (K4.out.own.below ((Below.refl _ _).alloc (Nat.le_refl _) _)) _ _ _ rfl (new_cell rfl) (by have := HSL.out; simp <;> omega) (by have := K4.out.size; simp; omega) ?_; intro v5 w5 o5 b5; have K5 := Lib.hid ((K4.out.call ((Below.refl _ _).alloc (Nat.le_refl _) _)).app b5 o5); clear o5 b5; have l5 := K5.out.box.lt; have c57 := K5.out.box.c7)
    | (at_builtin; refine append_list _ rfl (.tmp 37) (.tmp 39) rfl (w.heap.size + 1) Try.underlying26 info64 _ _ rfl K5.out.own _ _ _ xs rfl (HR.out.below K5.out.below) (by have := HSL.out; simp; omega) K5.out.size ?_; intro v6 w6 o6 b6; have K6 := Lib.hid (K5.out.app b6 o6); clear o6 b6))
  have hz := K6.out.makes2 (c := 0)
  rw [List.append_assoc] at hz
  go_ret2
  exact hz
set_option maxHeartbeats 1000000 in
set_option maxRecDepth 100000 in
theorem sBody00 (a q t m r s k : Int) (ao : Option Addr) (cap : Nat) (xs : List Int) (w : World) (hr : Rd w ao xs.length xs) (hn : xs.length ≤ 1048576) (hf : isFrame ⟨a, q, t, m, r, s, k, xs⟩ = true) (hx : hasState a = false) (hy : hasData a = false) : Calls Try.prog 43 #[.agg #[.int .i64 a, .int .i64 q, .int .i64 t, .int .i64 m, .int .i64 r, .int .i64 s, .int .i64 k, .slice ao xs.length cap]] w (Makes 2 w (frameBytes ⟨a, q, t, m, r, s, k, xs⟩)) := by
  have hp := isFrame_parts hf
  simp only at hp
  have ha := inRange_iff.1 hp.1
  have hq := hp.2.1
  have hsz := sizeOk_le hp.2.2.2.1
  have hxl : xs.length ≤ 32 := by omega
  have hw1 : IntKind.i64.wrap (a * 64) = a * 64 := by rw [IntKind.wrap_i64]; omega
  have hw2 : IntKind.i64.wrap (q * 8) = q * 8 := by rw [IntKind.wrap_i64]; omega
  have hor := head_or ha hq
  have hb := body_parts (q := q) (t := t) (m := m) (r := r) (s := s) (k := k) (xs := xs) hx hy
  obtain ⟨hd, hhd⟩ : ∃ hd, a * 64 + q * 8 = hd := ⟨_, rfl⟩
  rw [hhd] at hor hb
  have hadd : wrap64 (a * 64 + q * 8) = hd := by rw [← hhd]; unfold wrap64; omega
  have hsl := stBytes_len t m r s k
  have hst := fun w => bytesOfState_any t m r s k w
  have hst2 := fun w => l04Bits_any t m r s k w
  have hst3 : bytesTo (stateBits t m r s k) ((stateBits t m r s k).length / 8) = stBytes t m r s k := by rw [stateBits_len]; rfl
  have hst4 := stateBits_len t m r s k
  have hst5 := stateBits_bits t m r s k
  generalize stateBits t m r s k = sb at hst2 hst3 hst4 hst5
  generalize stBytes t m r s k = st at hb hsl hst hst3
  have hb' : frameBytes ⟨a, q, t, m, r, s, k, xs⟩ = [hd] := by rw [hb]; simp
  rw [hb']
  have hne := hasState_ne hp.1
  rw [hx] at hne
  have HNE := Lib.hid hne; have HX := Lib.hid hx; have HY := Lib.hid hy; have HF := Lib.hid hf; have HSL := Lib.hid hsl; have HST := Lib.hid hst; have HS2 := Lib.hid hst2; have HS3 := Lib.hid hst3; have HS4 := Lib.hid hst4; have HS5 := Lib.hid hst5; have HHD := Lib.hid hhd; have HP := Lib.hid (show 0 ≤ a ∧ a ≤ 3 ∧ 0 ≤ q ∧ q ≤ 7 from by omega)
  clear hx hy hf hp hb hb' ha hq hsz hne hsl hst hst2 hst3 hst4 hst5 hhd
  have hb0 : Below w.heap.size w (w.alloc (.cells #[.int .i64 a, .int .i64 q, .int .i64 t, .int .i64 m, .int .i64 r, .int .i64 s, .int .i64 k, .slice ao xs.length cap] 28)) := (Below.refl _ _).alloc (Nat.le_refl _) _
  have HR := Lib.hid hr; clear hr
  go_enter Try.func43, Try.ntmps43
  have A1 := Lib.hid (frame_new (T := 28) (a := a) (q := q) (t := t) (m := m) (r := r) (s := s) (k := k) (v := .slice ao xs.length cap) (Below.refl (w.alloc (.cells #[.int .i64 a, .int .i64 q, .int .i64 t, .int .i64 m, .int .i64 r, .int .i64 s, .int .i64 k, .slice ao xs.length cap] 28)).heap.size (w.alloc (.cells #[.int .i64 a, .int .i64 q, .int .i64 t, .int .i64 m, .int .i64 r, .int .i64 s, .int .i64 k, .slice ao xs.length cap] 28))))
  have B1 := Lib.hid hb0
  clear hb0
  have K1 := Lib.hid (Built.lit hd A1.out B1.out)
  rw [show (w.alloc (.cells #[.int .i64 a, .int .i64 q, .int .i64 t, .int .i64 m, .int .i64 r, .int .i64 s, .int .i64 k, .slice ao xs.length cap] 28)).heap.size = w.heap.size + 1 from by simp] at K1
  go_wp2_with fail
  refine (l06State_any _ _).mono ?_
  rintro e w1' ⟨rfl, rfl⟩
  rw [HNE.out]
  generalize (w.alloc (.cells #[.int .i64 a, .int .i64 q, .int .i64 t, .int .i64 m, .int .i64 r, .int .i64 s, .int .i64 k, .slice ao xs.length cap] 28)).alloc (.cells #[.int .i64 hd] 2) = w2 at K1 ⊢
  clear A1 B1
  have l4 := K1.out.box.lt
  have c40 := K1.out.box.c0
  have c47 := K1.out.box.c7
  go_wp2_with (first
    | (go_at_call 65; refine (l06Data_any _ _).mono ?_; rintro e w4' ⟨rfl, rfl⟩; rw [HY.out]))
  have hz := K1.out.makes
  go_ret
  exact hz
set_option maxHeartbeats 1000000 in
set_option maxRecDepth 100000 in
theorem sBody01 (a q t m r s k : Int) (ao : Option Addr) (cap : Nat) (xs : List Int) (w : World) (hr : Rd w ao xs.length xs) (hn : xs.length ≤ 1048576) (hf : isFrame ⟨a, q, t, m, r, s, k, xs⟩ = true) (hx : hasState a = false) (hy : hasData a = true) : Calls Try.prog 43 #[.agg #[.int .i64 a, .int .i64 q, .int .i64 t, .int .i64 m, .int .i64 r, .int .i64 s, .int .i64 k, .slice ao xs.length cap]] w (Makes 2 w (frameBytes ⟨a, q, t, m, r, s, k, xs⟩)) := by
  have hp := isFrame_parts hf
  simp only at hp
  have ha := inRange_iff.1 hp.1
  have hq := hp.2.1
  have hsz := sizeOk_le hp.2.2.2.1
  have hxl : xs.length ≤ 32 := by omega
  have hw1 : IntKind.i64.wrap (a * 64) = a * 64 := by rw [IntKind.wrap_i64]; omega
  have hw2 : IntKind.i64.wrap (q * 8) = q * 8 := by rw [IntKind.wrap_i64]; omega
  have hor := head_or ha hq
  have hb := body_parts (q := q) (t := t) (m := m) (r := r) (s := s) (k := k) (xs := xs) hx hy
  obtain ⟨hd, hhd⟩ : ∃ hd, a * 64 + q * 8 = hd := ⟨_, rfl⟩
  rw [hhd] at hor hb
  have hadd : wrap64 (a * 64 + q * 8) = hd := by rw [← hhd]; unfold wrap64; omega
  have hsl := stBytes_len t m r s k
  have hst := fun w => bytesOfState_any t m r s k w
  have hst2 := fun w => l04Bits_any t m r s k w
  have hst3 : bytesTo (stateBits t m r s k) ((stateBits t m r s k).length / 8) = stBytes t m r s k := by rw [stateBits_len]; rfl
  have hst4 := stateBits_len t m r s k
  have hst5 := stateBits_bits t m r s k
  generalize stateBits t m r s k = sb at hst2 hst3 hst4 hst5
  generalize stBytes t m r s k = st at hb hsl hst hst3
  have hb' : frameBytes ⟨a, q, t, m, r, s, k, xs⟩ = [hd] ++ ([(xs.length : Int)] ++ xs) := by rw [hb]; simp
  rw [hb']
  have hne := hasState_ne hp.1
  rw [hx] at hne
  have HNE := Lib.hid hne; have HX := Lib.hid hx; have HY := Lib.hid hy; have HF := Lib.hid hf; have HSL := Lib.hid hsl; have HST := Lib.hid hst; have HS2 := Lib.hid hst2; have HS3 := Lib.hid hst3; have HS4 := Lib.hid hst4; have HS5 := Lib.hid hst5; have HHD := Lib.hid hhd; have HP := Lib.hid (show 0 ≤ a ∧ a ≤ 3 ∧ 0 ≤ q ∧ q ≤ 7 from by omega)
  clear hx hy hf hp hb hb' ha hq hsz hne hsl hst hst2 hst3 hst4 hst5 hhd
  have hb0 : Below w.heap.size w (w.alloc (.cells #[.int .i64 a, .int .i64 q, .int .i64 t, .int .i64 m, .int .i64 r, .int .i64 s, .int .i64 k, .slice ao xs.length cap] 28)) := (Below.refl _ _).alloc (Nat.le_refl _) _
  have HR := Lib.hid hr; clear hr
  go_enter Try.func43, Try.ntmps43
  have A1 := Lib.hid (frame_new (T := 28) (a := a) (q := q) (t := t) (m := m) (r := r) (s := s) (k := k) (v := .slice ao xs.length cap) (Below.refl (w.alloc (.cells #[.int .i64 a, .int .i64 q, .int .i64 t, .int .i64 m, .int .i64 r, .int .i64 s, .int .i64 k, .slice ao xs.length cap] 28)).heap.size (w.alloc (.cells #[.int .i64 a, .int .i64 q, .int .i64 t, .int .i64 m, .int .i64 r, .int .i64 s, .int .i64 k, .slice ao xs.length cap] 28))))
  have B1 := Lib.hid hb0
  clear hb0
  have K1 := Lib.hid (Built.lit hd A1.out B1.out)
  rw [show (w.alloc (.cells #[.int .i64 a, .int .i64 q, .int .i64 t, .int .i64 m, .int .i64 r, .int .i64 s, .int .i64 k, .slice ao xs.length cap] 28)).heap.size = w.heap.size + 1 from by simp] at K1
  go_wp2_with fail
  refine (l06State_any _ _).mono ?_
  rintro e w1' ⟨rfl, rfl⟩
  rw [HNE.out]
  generalize (w.alloc (.cells #[.int .i64 a, .int .i64 q, .int .i64 t, .int .i64 m, .int .i64 r, .int .i64 s, .int .i64 k, .slice ao xs.length cap] 28)).alloc (.cells #[.int .i64 hd] 2) = w2 at K1 ⊢
  clear A1 B1
  have l4 := K1.out.box.lt
  have c40 := K1.out.box.c0
  have c47 := K1.out.box.c7
  go_wp2_with (first
    | (go_at_call 65; refine (l06Data_any _ _).mono ?_; rintro e w4' ⟨rfl, rfl⟩; rw [HY.out])
    | (at_builtin; refine append_one _ rfl (.tmp 24) (.tmp 28) rfl (w.heap.size + 1) Try.underlying26 info64 _ _ rfl (K1.out.own.below ((Below.refl _ _).alloc (Nat.le_refl _) _)) _ _ _ rfl (new_cell rfl) (by have := HSL.out; simp <;> omega) (by have := K1.out.size; simp; omega) ?_; intro v5 w5 o5 b5; have K5 := Lib.hid ((K1.out.call ((Below.refl _ _).alloc (Nat.le_refl _) _)).app b5 o5); clear o5 b5; have l5 := K5.out.box.lt; have c57 := K5.out.box.c7)
    | (at_builtin; refine append_list _ rfl (.tmp 30) (.tmp 32) rfl (w.heap.size + 1) Try.underlying26 info64 _ _ rfl K5.out.own _ _ _ xs rfl (HR.out.below K5.out.below) (by have := HSL.out; simp; omega) K5.out.size ?_; intro v6 w6 o6 b6; have K6 := Lib.hid (K5.out.app b6 o6); clear o6 b6))
  have hz := K6.out.makes
  rw [List.append_assoc] at hz
  go_ret
  exact hz
set_option maxHeartbeats 1000000 in
set_option maxRecDepth 100000 in
theorem sBody10 (a q t m r s k : Int) (ao : Option Addr) (cap : Nat) (xs : List Int) (w : World) (hr : Rd w ao xs.length xs) (hn : xs.length ≤ 1048576) (hf : isFrame ⟨a, q, t, m, r, s, k, xs⟩ = true) (hx : hasState a = true) (hy : hasData a = false) : Calls Try.prog 43 #[.agg #[.int .i64 a, .int .i64 q, .int .i64 t, .int .i64 m, .int .i64 r, .int .i64 s, .int .i64 k, .slice ao xs.length cap]] w (Makes 2 w (frameBytes ⟨a, q, t, m, r, s, k, xs⟩)) := by
  have hp := isFrame_parts hf
  simp only at hp
  have ha := inRange_iff.1 hp.1
  have hq := hp.2.1
  have hsz := sizeOk_le hp.2.2.2.1
  have hxl : xs.length ≤ 32 := by omega
  have hw1 : IntKind.i64.wrap (a * 64) = a * 64 := by rw [IntKind.wrap_i64]; omega
  have hw2 : IntKind.i64.wrap (q * 8) = q * 8 := by rw [IntKind.wrap_i64]; omega
  have hor := head_or ha hq
  have hb := body_parts (q := q) (t := t) (m := m) (r := r) (s := s) (k := k) (xs := xs) hx hy
  obtain ⟨hd, hhd⟩ : ∃ hd, a * 64 + q * 8 = hd := ⟨_, rfl⟩
  rw [hhd] at hor hb
  have hadd : wrap64 (a * 64 + q * 8) = hd := by rw [← hhd]; unfold wrap64; omega
  have hsl := stBytes_len t m r s k
  have hst := fun w => bytesOfState_any t m r s k w
  have hst2 := fun w => l04Bits_any t m r s k w
  have hst3 : bytesTo (stateBits t m r s k) ((stateBits t m r s k).length / 8) = stBytes t m r s k := by rw [stateBits_len]; rfl
  have hst4 := stateBits_len t m r s k
  have hst5 := stateBits_bits t m r s k
  generalize stateBits t m r s k = sb at hst2 hst3 hst4 hst5
  generalize stBytes t m r s k = st at hb hsl hst hst3
  have hb' : frameBytes ⟨a, q, t, m, r, s, k, xs⟩ = [hd] ++ st := by rw [hb]; simp
  rw [hb']
  have hne := hasState_ne hp.1
  rw [hx] at hne
  have HNE := Lib.hid hne; have HX := Lib.hid hx; have HY := Lib.hid hy; have HF := Lib.hid hf; have HSL := Lib.hid hsl; have HST := Lib.hid hst; have HS2 := Lib.hid hst2; have HS3 := Lib.hid hst3; have HS4 := Lib.hid hst4; have HS5 := Lib.hid hst5; have HHD := Lib.hid hhd; have HP := Lib.hid (show 0 ≤ a ∧ a ≤ 3 ∧ 0 ≤ q ∧ q ≤ 7 from by omega)
  clear hx hy hf hp hb hb' ha hq hsz hne hsl hst hst2 hst3 hst4 hst5 hhd
  have hb0 : Below w.heap.size w (w.alloc (.cells #[.int .i64 a, .int .i64 q, .int .i64 t, .int .i64 m, .int .i64 r, .int .i64 s, .int .i64 k, .slice ao xs.length cap] 28)) := (Below.refl _ _).alloc (Nat.le_refl _) _
  have HR := Lib.hid hr; clear hr
  go_enter Try.func43, Try.ntmps43
  have A1 := Lib.hid (frame_new (T := 28) (a := a) (q := q) (t := t) (m := m) (r := r) (s := s) (k := k) (v := .slice ao xs.length cap) (Below.refl (w.alloc (.cells #[.int .i64 a, .int .i64 q, .int .i64 t, .int .i64 m, .int .i64 r, .int .i64 s, .int .i64 k, .slice ao xs.length cap] 28)).heap.size (w.alloc (.cells #[.int .i64 a, .int .i64 q, .int .i64 t, .int .i64 m, .int .i64 r, .int .i64 s, .int .i64 k, .slice ao xs.length cap] 28))))
  have B1 := Lib.hid hb0
  clear hb0
  have K1 := Lib.hid (Built.lit hd A1.out B1.out)
  rw [show (w.alloc (.cells #[.int .i64 a, .int .i64 q, .int .i64 t, .int .i64 m, .int .i64 r, .int .i64 s, .int .i64 k, .slice ao xs.length cap] 28)).heap.size = w.heap.size + 1 from by simp] at K1
  go_wp2_with fail
  refine (l06State_any _ _).mono ?_
  rintro e w1' ⟨rfl, rfl⟩
  rw [HNE.out]
  generalize (w.alloc (.cells #[.int .i64 a, .int .i64 q, .int .i64 t, .int .i64 m, .int .i64 r, .int .i64 s, .int .i64 k, .slice ao xs.length cap] 28)).alloc (.cells #[.int .i64 hd] 2) = w2 at K1 ⊢
  clear A1 B1
  have c2 := K1.out.box.c2
  have c3 := K1.out.box.c3
  have c4 := K1.out.box.c4
  have c5 := K1.out.box.c5
  have c6 := K1.out.box.c6
  go_wp2_with fail
  clear c2 c3 c4 c5 c6
  refine (HS2.out _).mono ?_
  rintro e w3' m3'
  obtain ⟨p3', c3', rfl, o3', r3', b3'⟩ := m3'.get
  have K2' := Lib.hid (K1.out.call b3')
  clear m3' b3' K1
  go_wp2_with fail
  refine (l01Bytes_any _ _ _ _ r3' (by have := HS4.out; omega) HS5.out).mono ?_
  rintro e w3 m3
  rw [HS3.out] at m3
  obtain ⟨p3, c3, rfl, -, r3, b3⟩ := m3.get
  have K2 := Lib.hid (K2'.out.call b3)
  have R3 := Lib.hid r3
  clear m3 r3 b3 K2' r3' o3'
  go_wp2_with (first
    | (at_builtin; refine append_list _ rfl (.tmp 15) (.tmp 19) rfl (w.heap.size + 1) Try.underlying26 info64 _ [hd] rfl K2.out.own _ _ _ st rfl R3.out (by have := HSL.out; simp; omega) K2.out.size ?_; intro v4 w4 o4 b4; have K4 := Lib.hid (K2.out.app b4 o4); clear o4 b4; have l4 := K4.out.box.lt; have c40 := K4.out.box.c0; have c47 := K4.out.box.c7)
    | (go_at_call 65; refine (l06Data_any _ _).mono ?_; rintro e w4' ⟨rfl, rfl⟩; rw [HY.out]))
  have hz := K4.out.makes
  go_ret
  exact hz
set_option maxHeartbeats 1000000 in
set_option maxRecDepth 100000 in
theorem sBody11 (a q t m r s k : Int) (ao : Option Addr) (cap : Nat) (xs : List Int) (w : World) (hr : Rd w ao xs.length xs) (hn : xs.length ≤ 1048576) (hf : isFrame ⟨a, q, t, m, r, s, k, xs⟩ = true) (hx : hasState a = true) (hy : hasData a = true) : Calls Try.prog 43 #[.agg #[.int .i64 a, .int .i64 q, .int .i64 t, .int .i64 m, .int .i64 r, .int .i64 s, .int .i64 k, .slice ao xs.length cap]] w (Makes 2 w (frameBytes ⟨a, q, t, m, r, s, k, xs⟩)) := by
  have hp := isFrame_parts hf
  simp only at hp
  have ha := inRange_iff.1 hp.1
  have hq := hp.2.1
  have hsz := sizeOk_le hp.2.2.2.1
  have hxl : xs.length ≤ 32 := by omega
  have hw1 : IntKind.i64.wrap (a * 64) = a * 64 := by rw [IntKind.wrap_i64]; omega
  have hw2 : IntKind.i64.wrap (q * 8) = q * 8 := by rw [IntKind.wrap_i64]; omega
  have hor := head_or ha hq
  have hb := body_parts (q := q) (t := t) (m := m) (r := r) (s := s) (k := k) (xs := xs) hx hy
  obtain ⟨hd, hhd⟩ : ∃ hd, a * 64 + q * 8 = hd := ⟨_, rfl⟩
  rw [hhd] at hor hb
  have hadd : wrap64 (a * 64 + q * 8) = hd := by rw [← hhd]; unfold wrap64; omega
  have hsl := stBytes_len t m r s k
  have hst := fun w => bytesOfState_any t m r s k w
  have hst2 := fun w => l04Bits_any t m r s k w
  have hst3 : bytesTo (stateBits t m r s k) ((stateBits t m r s k).length / 8) = stBytes t m r s k := by rw [stateBits_len]; rfl
  have hst4 := stateBits_len t m r s k
  have hst5 := stateBits_bits t m r s k
  generalize stateBits t m r s k = sb at hst2 hst3 hst4 hst5
  generalize stBytes t m r s k = st at hb hsl hst hst3
  have hb' : frameBytes ⟨a, q, t, m, r, s, k, xs⟩ = [hd] ++ st ++ ([(xs.length : Int)] ++ xs) := by rw [hb]; simp
  rw [hb']
  have hne := hasState_ne hp.1
  rw [hx] at hne
  have HNE := Lib.hid hne; have HX := Lib.hid hx; have HY := Lib.hid hy; have HF := Lib.hid hf; have HSL := Lib.hid hsl; have HST := Lib.hid hst; have HS2 := Lib.hid hst2; have HS3 := Lib.hid hst3; have HS4 := Lib.hid hst4; have HS5 := Lib.hid hst5; have HHD := Lib.hid hhd; have HP := Lib.hid (show 0 ≤ a ∧ a ≤ 3 ∧ 0 ≤ q ∧ q ≤ 7 from by omega)
  clear hx hy hf hp hb hb' ha hq hsz hne hsl hst hst2 hst3 hst4 hst5 hhd
  have hb0 : Below w.heap.size w (w.alloc (.cells #[.int .i64 a, .int .i64 q, .int .i64 t, .int .i64 m, .int .i64 r, .int .i64 s, .int .i64 k, .slice ao xs.length cap] 28)) := (Below.refl _ _).alloc (Nat.le_refl _) _
  have HR := Lib.hid hr; clear hr
  go_enter Try.func43, Try.ntmps43
  have A1 := Lib.hid (frame_new (T := 28) (a := a) (q := q) (t := t) (m := m) (r := r) (s := s) (k := k) (v := .slice ao xs.length cap) (Below.refl (w.alloc (.cells #[.int .i64 a, .int .i64 q, .int .i64 t, .int .i64 m, .int .i64 r, .int .i64 s, .int .i64 k, .slice ao xs.length cap] 28)).heap.size (w.alloc (.cells #[.int .i64 a, .int .i64 q, .int .i64 t, .int .i64 m, .int .i64 r, .int .i64 s, .int .i64 k, .slice ao xs.length cap] 28))))
  have B1 := Lib.hid hb0
  clear hb0
  have K1 := Lib.hid (Built.lit hd A1.out B1.out)
  rw [show (w.alloc (.cells #[.int .i64 a, .int .i64 q, .int .i64 t, .int .i64 m, .int .i64 r, .int .i64 s, .int .i64 k, .slice ao xs.length cap] 28)).heap.size = w.heap.size + 1 from by simp] at K1
  go_wp2_with fail
  refine (l06State_any _ _).mono ?_
  rintro e w1' ⟨rfl, rfl⟩
  rw [HNE.out]
  generalize (w.alloc (.cells #[.int .i64 a, .int .i64 q, .int .i64 t, .int .i64 m, .int .i64 r, .int .i64 s, .int .i64 k, .slice ao xs.length cap] 28)).alloc (.cells #[.int .i64 hd] 2) = w2 at K1 ⊢
  clear A1 B1
  have c2 := K1.out.box.c2
  have c3 := K1.out.box.c3
  have c4 := K1.out.box.c4
  have c5 := K1.out.box.c5
  have c6 := K1.out.box.c6
  go_wp2_with fail
  clear c2 c3 c4 c5 c6
  refine (HS2.out _).mono ?_
  rintro e w3' m3'
  obtain ⟨p3', c3', rfl, o3', r3', b3'⟩ := m3'.get
  have K2' := Lib.hid (K1.out.call b3')
  clear m3' b3' K1
  go_wp2_with fail
  refine (l01Bytes_any _ _ _ _ r3' (by have := HS4.out; omega) HS5.out).mono ?_
  rintro e w3 m3
  rw [HS3.out] at m3
  obtain ⟨p3, c3, rfl, -, r3, b3⟩ := m3.get
  have K2 := Lib.hid (K2'.out.call b3)
  have R3 := Lib.hid r3
  clear m3 r3 b3 K2' r3' o3'
  go_wp2_with (first
    | (at_builtin; refine append_list _ rfl (.tmp 15) (.tmp 19) rfl (w.heap.size + 1) Try.underlying26 info64 _ [hd] rfl K2.out.own _ _ _ st rfl R3.out (by have := HSL.out; simp; omega) K2.out.size ?_; intro v4 w4 o4 b4; have K4 := Lib.hid (K2.out.app b4 o4); clear o4 b4; have l4 := K4.out.box.lt; have c40 := K4.out.box.c0; have c47 := K4.out.box.c7)
    | (go_at_call 65; refine (l06Data_any _ _).mono ?_; rintro e w4' ⟨rfl, rfl⟩; rw [HY.out])
    | (at_builtin; refine append_one _ rfl (.tmp 24) (.tmp 28) rfl (w.heap.size + 1) Try.underlying26 info64 _ _ rfl (K4.out.own.below ((Below.refl _ _).alloc (Nat.le_refl _) _)) _ _ _ rfl (new_cell rfl) (by have := HSL.out; simp <;> omega) (by have := K4.out.size; simp; omega) ?_; intro v5 w5 o5 b5; have K5 := Lib.hid ((K4.out.call ((Below.refl _ _).alloc (Nat.le_refl _) _)).app b5 o5); clear o5 b5; have l5 := K5.out.box.lt; have c57 := K5.out.box.c7)
    | (at_builtin; refine append_list _ rfl (.tmp 30) (.tmp 32) rfl (w.heap.size + 1) Try.underlying26 info64 _ _ rfl K5.out.own _ _ _ xs rfl (HR.out.below K5.out.below) (by have := HSL.out; simp; omega) K5.out.size ?_; intro v6 w6 o6 b6; have K6 := Lib.hid (K5.out.app b6 o6); clear o6 b6))
  have hz := K6.out.makes
  rw [List.append_assoc] at hz
  go_ret
  exact hz
theorem frameBody_any (a q t m r s k : Int) (ao : Option Addr) (cap : Nat) (xs : List Int) (w : World) (hr : Rd w ao xs.length xs) (hn : xs.length ≤ 1048576) : Calls Try.prog 14 #[.agg #[.int .i64 a, .int .i64 q, .int .i64 t, .int .i64 m, .int .i64 r, .int .i64 s, .int .i64 k, .slice ao xs.length cap]] w (Makes2 2 w (frameBody ⟨a, q, t, m, r, s, k, xs⟩).1 (frameBody ⟨a, q, t, m, r, s, k, xs⟩).2) := by
  rcases hf : isFrame ⟨a, q, t, m, r, s, k, xs⟩ with _ | _
  · rw [body_no hf]
    have HF := Lib.hid hf; clear hf
    have hb : Below w.heap.size w (w.alloc (.cells #[.int .i64 a, .int .i64 q, .int .i64 t, .int .i64 m, .int .i64 r, .int .i64 s, .int .i64 k, .slice ao xs.length cap] 28)) := (Below.refl _ _).alloc (Nat.le_refl _) _
    have HR := Lib.hid (hr.below hb); clear hr hb
    go_enter Try.func14, Try.ntmps14
    go_wp2_with (go_at_call 17; refine (isFrame_any _ _ _ _ _ _ _ _ _ _ _ HR.out hn).mono ?_; rintro e w1 ⟨rfl, b1⟩; rw [HF.out])
    go_ret2
    exact ⟨_, rfl, Own.nil_, below_box b1⟩
  · rw [body_ok hf]
    rcases hx : hasState a with _ | _ <;> rcases hy : hasData a with _ | _
    · exact iBody00 a q t m r s k ao cap xs w hr hn hf hx hy
    · exact iBody01 a q t m r s k ao cap xs w hr hn hf hx hy
    · exact iBody10 a q t m r s k ao cap xs w hr hn hf hx hy
    · exact iBody11 a q t m r s k ao cap xs w hr hn hf hx hy
theorem l06Body_any (a q t m r s k : Int) (ao : Option Addr) (cap : Nat) (xs : List Int) (w : World) (hr : Rd w ao xs.length xs) (hn : xs.length ≤ 1048576) (hf : isFrame ⟨a, q, t, m, r, s, k, xs⟩ = true) : Calls Try.prog 43 #[.agg #[.int .i64 a, .int .i64 q, .int .i64 t, .int .i64 m, .int .i64 r, .int .i64 s, .int .i64 k, .slice ao xs.length cap]] w (Makes 2 w (frameBytes ⟨a, q, t, m, r, s, k, xs⟩)) := by
  rcases hx : hasState a with _ | _ <;> rcases hy : hasData a with _ | _
  · exact sBody00 a q t m r s k ao cap xs w hr hn hf hx hy
  · exact sBody01 a q t m r s k ao cap xs w hr hn hf hx hy
  · exact sBody10 a q t m r s k ao cap xs w hr hn hf hx hy
  · exact sBody11 a q t m r s k ao cap xs w hr hn hf hx hy
theorem sFrameBody_any (a q t m r s k : Int) (ao : Option Addr) (cap : Nat) (xs : List Int) (w : World) (hr : Rd w ao xs.length xs) (hn : xs.length ≤ 1048576) : Calls Try.prog 15 #[.agg #[.int .i64 a, .int .i64 q, .int .i64 t, .int .i64 m, .int .i64 r, .int .i64 s, .int .i64 k, .slice ao xs.length cap]] w (Makes2 2 w (frameBody ⟨a, q, t, m, r, s, k, xs⟩).1 (frameBody ⟨a, q, t, m, r, s, k, xs⟩).2) := by
  have hb : Below w.heap.size w (w.alloc (.cells #[.int .i64 a, .int .i64 q, .int .i64 t, .int .i64 m, .int .i64 r, .int .i64 s, .int .i64 k, .slice ao xs.length cap] 28)) := (Below.refl _ _).alloc (Nat.le_refl _) _
  have HR := Lib.hid (hr.below hb); clear hr hb
  rcases hf : isFrame ⟨a, q, t, m, r, s, k, xs⟩ with _ | _
  · rw [body_no hf]
    have HF := Lib.hid hf; clear hf
    go_enter Try.func15, Try.ntmps15
    go_wp2_with (go_at_call 18; refine (sIsFrame_any _ _ _ _ _ _ _ _ _ _ _ HR.out hn).mono ?_; rintro e w1 ⟨rfl, b1⟩; rw [HF.out])
    go_ret2
    exact ⟨_, rfl, Own.nil_, below_box b1⟩
  · rw [body_ok hf]
    have HF := Lib.hid hf; clear hf
    go_enter Try.func15, Try.ntmps15
    go_wp2_with fail
    refine (sIsFrame_any _ _ _ _ _ _ _ _ _ _ _ HR.out hn).mono ?_
    rintro e w1 ⟨rfl, b1⟩
    rw [HF.out]
    obtain ⟨c0, c1, c2, c3, c4, c5, c6, c7⟩ := frame_cells (frame_new b1)
    go_wp2_with fail
    clear c0 c1 c2 c3 c4 c5 c6 c7
    refine (l06Body_any _ _ _ _ _ _ _ _ _ _ _ (HR.out.below b1) hn HF.out).mono ?_
    rintro e w2 ⟨v, rfl, o2, b2⟩
    have B1 := below_box b1
    have O2 := Lib.hid (o2.more B1.size)
    have B2 := Lib.hid (below_two B1 b2)
    clear o2 b2 b1 B1
    go_wp2
    go_ret2
    exact ⟨_, rfl, O2.out, B2.out⟩
end Go.Proofs.Ytnblbemkpojjdaa
