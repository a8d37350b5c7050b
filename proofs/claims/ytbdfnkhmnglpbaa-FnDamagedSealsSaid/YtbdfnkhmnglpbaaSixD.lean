/-
  Chapter 6: the bytes of a state on both sides; lists compared and copied by the model.
  Chapter 6: FrameBody of the program and of its model.
  Chapter 6: slices.Equal, and what the program reads of a list: stateOfBytes, readBody.
-/
import Derived.Test.YtbdfnkhmnglpbaaSixC
import Derived.Test.YtbdfnkhmnglpbaaSame
import Derived.Test.YtbdfnkhmnglpbaaOne
import Derived.Test.YtbdfnkhmnglpbaaOneB
import Derived.Test.YtbdfnkhmnglpbaaFourA
namespace Go.Proofs.Ytbdfnkhmnglpbaa
section
open Go.RowKit

/-! ### the bytes of a state -/
theorem bits_list {xs : List Int} (hb : ∀ x ∈ xs, 0 ≤ x ∧ x ≤ 1) (hl : xs.length ≤ 8192) : isBits xs = true := isBits_iff.2 ⟨hl, hb⟩
theorem bytes_state (t m r s k : Int) : bitsToBytes (stateBits t m r s k) = (stBytes t m r s k, 0) := by
  rw [bi_0 (bits_list (stateBits_bits _ _ _ _ _) (by rw [stateBits_len]; omega)) (by rw [stateBits_len]), stateBits_len]
  rfl
theorem bytesOfState_any (t m r s k : Int) (w : World) : Calls Try.prog 117 #[.agg #[.int .i64 t, .int .i64 m, .int .i64 r, .int .i64 s, .int .i64 k]] w (Makes 2 w (stBytes t m r s k)) := by
  have he := bytes_state t m r s k
  have hb := fun w => bitsOfState_any t m r s k w
  have hl := stateBits_len t m r s k
  generalize stateBits t m r s k = bs at he hl hb
  generalize stBytes t m r s k = ys at he ⊢
  have HE := Lib.hid he; have HL := Lib.hid hl; have HB := Lib.hid hb; clear he hl hb
  go_enter Try.func117, Try.ntmps117
  go_wp2_with fail
  refine (HB.out _).mono ?_
  rintro e w1 m1
  obtain ⟨p1, c1, rfl, o1, r1, b1⟩ := m1.get
  go_wp2_with fail
  refine (bitsToBytes_any _ _ _ _ r1 (by rw [HL.out]; omega) (Own.cap o1).1).mono ?_
  rintro e w2 m2
  rw [HE.out] at m2
  change Makes2 2 _ ys 0 _ _ at m2
  obtain ⟨p2, c2, rfl, o2, -, b2⟩ := m2.get
  have B1 := below_box b1
  have O2 := Lib.hid (o2.more B1.size)
  have B2 := Lib.hid (below_two B1 b2)
  clear m1 m2 o1 o2 r1 b1 b2 B1
  go_wp2
  go_ret
  exact ⟨_, rfl, O2.out, B2.out⟩
end

section
open Go.RowKit

theorem head_or {a q : Int} (ha : 0 ≤ a ∧ a ≤ 3) (hq : 0 ≤ q ∧ q ≤ 7) : bits .or .i64 (a * 64) (q * 8) = a * 64 + q * 8 := by
  obtain ⟨a, rfl⟩ := Int.eq_ofNat_of_zero_le ha.1
  obtain ⟨q, rfl⟩ := Int.eq_ofNat_of_zero_le hq.1
  have h1 : a ≤ 3 := by omega
  have h2 : q ≤ 7 := by omega
  rw [show ((a : Nat) : Int) * 64 = ((a * 64 : Nat) : Int) from by omega, show ((q : Nat) : Int) * 8 = ((q * 8 : Nat) : Int) from by omega, or_nat _ _ (by omega) (by omega), ← Int.natCast_add]
  congr 1
  have key : ∀ a : Fin 4, ∀ q : Fin 8, a.val * 64 ||| q.val * 8 = a.val * 64 + q.val * 8 := by decide +kernel
  exact key ⟨a, by omega⟩ ⟨q, by omega⟩
/-- The body, as the walks build it. -/
theorem body_parts {a q t m r s k : Int} {xs : List Int} {x y : Bool} (hx : hasState a = x) (hy : hasData a = y) : frameBytes ⟨a, q, t, m, r, s, k, xs⟩ = [a * 64 + q * 8] ++ (if x = true then stBytes t m r s k else []) ++ (if y = true then [(xs.length : Int)] ++ xs else []) := by subst hx hy; rfl
theorem body_no {f : Fr} (h : isFrame f = false) : frameBody f = ([], 1) := by unfold frameBody; rw [if_neg (by simp [h])]
theorem body_ok {f : Fr} (h : isFrame f = true) : frameBody f = (frameBytes f, 0) := by unfold frameBody; rw [if_pos h]
/-- A frame in the block that the call laid first, and a list of the call's own that grows. -/
structure Built (w wi : World) (a q t m r s k : Int) (v z : Value) (zs : List Int) : Prop where
  box : FrameAt 28 wi w.heap.size a q t m r s k v
  below : Below w.heap.size w wi
  own : Own 2 wi (w.heap.size + 1) z zs
theorem Built.call {w wi wj : World} {a q t m r s k : Int} {v z : Value} {zs : List Int} (h : Built w wi a q t m r s k v z zs) (b : Below wi.heap.size wi wj) : Built w wj a q t m r s k v z zs := ⟨h.box.below b h.box.lt, below_two h.below b, h.own.below b⟩
theorem Built.app {w wi wj : World} {a q t m r s k : Int} {v z z' : Value} {zs zs' : List Int} (h : Built w wi a q t m r s k v z zs) (b : Below (w.heap.size + 1) wi wj) (o : Own 2 wj (w.heap.size + 1) z' zs') : Built w wj a q t m r s k v z' zs' := ⟨h.box.below b (Nat.lt_succ_self _), h.below.trans (b.mono (Nat.le_succ _)), o⟩
theorem Built.size {w wi : World} {a q t m r s k : Int} {v z : Value} {zs : List Int} (h : Built w wi a q t m r s k v z zs) : w.heap.size + 1 ≤ wi.heap.size := h.box.lt
theorem Built.lit {w wi : World} {a q t m r s k : Int} {v : Value} (x : Int) (h1 : FrameAt 28 wi w.heap.size a q t m r s k v) (h2 : Below w.heap.size w wi) : Built w (wi.alloc (.cells #[.int .i64 x] 2)) a q t m r s k v (.slice (some ⟨wi.heap.size, 0, none⟩) 1 1) [x] :=
  have b : Below wi.heap.size wi (wi.alloc (.cells #[.int .i64 x] 2)) := (Below.refl _ _).alloc (Nat.le_refl _) _
  ⟨h1.below b h1.lt, below_two h2 b, Own.of_alloc_one x h1.lt⟩
theorem Built.makes {w wi : World} {a q t m r s k : Int} {v z : Value} {zs : List Int} (h : Built w wi a q t m r s k v z zs) : Makes 2 w zs (.returned z) wi := ⟨z, rfl, h.own.more (Nat.le_succ _), h.below⟩
theorem Built.makes2 {w wi : World} {a q t m r s k c : Int} {v z : Value} {zs : List Int} (h : Built w wi a q t m r s k v z zs) : Makes2 2 w zs c (.returned (.tuple #[z, .int .i64 c])) wi := ⟨z, rfl, h.own.more (Nat.le_succ _), h.below⟩

set_option maxHeartbeats 1000000 in
set_option maxRecDepth 100000 in
theorem iBody00 (a q t m r s k : Int) (ao : Option Addr) (cap : Nat) (xs : List Int) (w : World) (hr : Rd w ao xs.length xs) (hn : xs.length ≤ 1048576) (hf : isFrame ⟨a, q, t, m, r, s, k, xs⟩ = true) (hx : hasState a = false) (hy : hasData a = false) : Calls Try.prog 74 #[.agg #[.int .i64 a, .int .i64 q, .int .i64 t, .int .i64 m, .int .i64 r, .int .i64 s, .int .i64 k, .slice ao xs.length cap]] w (Makes2 2 w (frameBytes ⟨a, q, t, m, r, s, k, xs⟩) 0) := by
  have hp := isFrame_parts hf
  simp only at hp
  have ha := inRange_iff.1 hp.1
  have hq := hp.2.1
  have hsz := sizeOk_le hp.2.2.2.1
  have hxl : xs.length ≤ 32 := by omega
  have hw1 : IntKind.i64.wrap (a * 64) = a * 64 := by rw [IntKind.wrap_i64]; omega
  have hw2 : IntKind.i64.wrap (q * 8) = q * 8 := by rw [IntKind.wrap_i64]; omega
  have hor := head_or ha hq
  have hb := body_parts (q := q) (t := t) (m := m) (r := r) (s := s) (k := k) (xs := xs) hx hy
  obtain ⟨hd, hhd⟩ : ∃ hd, a * 64 + q * 8 = hd := ⟨_, rfl⟩
  rw [hhd] at hor hb
  have hadd : wrap64 (a * 64 + q * 8) = hd := by rw [← hhd]; unfold wrap64; omega
  have hsl := stBytes_len t m r s k
  have hst := fun w => bytesOfState_any t m r s k w
  have hst2 := fun w => l04Bits_any t m r s k w
  have hst3 : bytesTo (stateBits t m r s k) ((stateBits t m r s k).length / 8) = stBytes t m r s k := by rw [stateBits_len]; rfl
  have hst4 := stateBits_len t m r s k
  have hst5 := stateBits_bits t m r s k
  generalize stateBits t m r s k = sb at hst2 hst3 hst4 hst5
  generalize stBytes t m r s k = st at hb hsl hst hst3
  have hb' : frameBytes ⟨a, q, t, m, r, s, k, xs⟩ = [hd] := by rw [hb]; simp
  rw [hb']
  have hne := hasState_ne hp.1
  rw [hx] at hne
  have HNE := Lib.hid hne; have HX := Lib.hid hx; have HY := Lib.hid hy; have HF := Lib.hid hf; have HSL := Lib.hid hsl; have HST := Lib.hid hst; have HS2 := Lib.hid hst2; have HS3 := Lib.hid hst3; have HS4 := Lib.hid hst4; have HS5 := Lib.hid hst5; have HHD := Lib.hid hhd; have HP := Lib.hid (show 0 ≤ a ∧ a ≤ 3 ∧ 0 ≤ q ∧ q ≤ 7 from by omega)
  clear hx hy hf hp hb hb' ha hq hsz hne hsl hst hst2 hst3 hst4 hst5 hhd
  have hb0 : Below w.heap.size w (w.alloc (.cells #[.int .i64 a, .int .i64 q, .int .i64 t, .int .i64 m, .int .i64 r, .int .i64 s, .int .i64 k, .slice ao xs.length cap] 28)) := (Below.refl _ _).alloc (Nat.le_refl _) _
  have HR := Lib.hid hr; clear hr
  go_enter Try.func74, Try.ntmps74
  go_wp2_with fail
  refine (isFrame_any _ _ _ _ _ _ _ _ _ _ _ (HR.out.below hb0) hn).mono ?_
  rintro e w1 ⟨rfl, b1⟩
  rw [HF.out]
  have A1 := Lib.hid (frame_new b1)
  have B1 := Lib.hid (below_box b1)
  clear b1 hb0
  have c0 := A1.out.c0
  have c1 := A1.out.c1
  have lA := A1.out.lt
  go_wp2_with fail
  clear c0 c1 lA
  refine (hasStateAndData_any _ _).mono ?_
  rintro e w1' ⟨rfl, rfl⟩
  rw [HX.out, HY.out]
  have K1 := Lib.hid (Built.lit hd A1.out B1.out)
  generalize w1.alloc (.cells #[.int .i64 hd] 2) = w2 at K1 ⊢
  clear A1 B1
  have l4 := K1.out.box.lt
  have c40 := K1.out.box.c0
  have c47 := K1.out.box.c7
  go_wp2
  have hz := K1.out.makes2 (c := 0)
  go_ret2
  exact hz
set_option maxHeartbeats 1000000 in
set_option maxRecDepth 100000 in
theorem iBody01 (a q t m r s k : Int) (ao : Option Addr) (cap : Nat) (xs : List Int) (w : World) (hr : Rd w ao xs.length xs) (hn : xs.length ≤ 1048576) (hf : isFrame ⟨a, q, t, m, r, s, k, xs⟩ = true) (hx : hasState a = false) (hy : hasData a = true) : Calls Try.prog 74 #[.agg #[.int .i64 a, .int .i64 q, .int .i64 t, .int .i64 m, .int .i64 r, .int .i64 s, .int .i64 k, .slice ao xs.length cap]] w (Makes2 2 w (frameBytes ⟨a, q, t, m, r, s, k, xs⟩) 0) := by
  have hp := isFrame_parts hf
  simp only at hp
  have ha := inRange_iff.1 hp.1
  have hq := hp.2.1
  have hsz := sizeOk_le hp.2.2.2.1
  have hxl : xs.length ≤ 32 := by omega
  have hw1 : IntKind.i64.wrap (a * 64) = a * 64 := by rw [IntKind.wrap_i64]; omega
  have hw2 : IntKind.i64.wrap (q * 8) = q * 8 := by rw [IntKind.wrap_i64]; omega
  have hor := head_or ha hq
  have hb := body_parts (q := q) (t := t) (m := m) (r := r) (s := s) (k := k) (xs := xs) hx hy
  obtain ⟨hd, hhd⟩ : ∃ hd, a * 64 + q * 8 = hd := ⟨_, rfl⟩
  rw [hhd] at hor hb
  have hadd : wrap64 (a * 64 + q * 8) = hd := by rw [← hhd]; unfold wrap64; omega
  have hsl := stBytes_len t m r s k
  have hst := fun w => bytesOfState_any t m r s k w
  have hst2 := fun w => l04Bits_any t m r s k w
  have hst3 : bytesTo (stateBits t m r s k) ((stateBits t m r s k).length / 8) = stBytes t m r s k := by rw [stateBits_len]; rfl
  have hst4 := stateBits_len t m r s k
  have hst5 := stateBits_bits t m r s k
  generalize stateBits t m r s k = sb at hst2 hst3 hst4 hst5
  generalize stBytes t m r s k = st at hb hsl hst hst3
  have hb' : frameBytes ⟨a, q, t, m, r, s, k, xs⟩ = [hd] ++ ([(xs.length : Int)] ++ xs) := by rw [hb]; simp
  rw [hb']
  have hne := hasState_ne hp.1
  rw [hx] at hne
  have HNE := Lib.hid hne; have HX := Lib.hid hx; have HY := Lib.hid hy; have HF := Lib.hid hf; have HSL := Lib.hid hsl; have HST := Lib.hid hst; have HS2 := Lib.hid hst2; have HS3 := Lib.hid hst3; have HS4 := Lib.hid hst4; have HS5 := Lib.hid hst5; have HHD := Lib.hid hhd; have HP := Lib.hid (show 0 ≤ a ∧ a ≤ 3 ∧ 0 ≤ q ∧ q ≤ 7 from by omega)
  clear hx hy hf hp hb hb' ha hq hsz hne hsl hst hst2 hst3 hst4 hst5 hhd
  have hb0 : Below w.heap.size w (w.alloc (.cells #[.int .i64 a, .int .i64 q, .int .i64 t, .int .i64 m, .int .i64 r, .int .i64 s, .int .i64 k, .slice ao xs.length cap] 28)) := (Below.refl _ _).alloc (Nat.le_refl _) _
  have HR := Lib.hid hr; clear hr
  go_enter Try.func74, Try.ntmps74
  go_wp2_with fail
  refine (isFrame_any _ _ _ _ _ _ _ _ _ _ _ (HR.out.below hb0) hn).mono ?_
  rintro e w1 ⟨rfl, b1⟩
  rw [HF.out]
  have A1 := Lib.hid (frame_new b1)
  have B1 := Lib.hid (below_box b1)
  clear b1 hb0
  have c0 := A1.out.c0
  have c1 := A1.out.c1
  have lA := A1.out.lt
  go_wp2_with fail
  clear c0 c1 lA
  refine (hasStateAndData_any _ _).mono ?_
  rintro e w1' ⟨rfl, rfl⟩
  rw [HX.out, HY.out]
  have K1 := Lib.hid (Built.lit hd A1.out B1.out)
  generalize w1.alloc (.cells #[.int .i64 hd] 2) = w2 at K1 ⊢
  clear A1 B1
  have l4 := K1.out.box.lt
  have c40 := K1.out.box.c0
  have c47 := K1.out.box.c7
  go_wp2_with (first
    | (at_builtin; refine append_one _ rfl (.tmp 31) (.tmp 35) rfl (w.heap.size + 1) Try.underlying26 info64 _ _ rfl (K1.out.own.below ((Below.refl _ _).alloc (Nat.le_refl _) _)) _ _ _ rfl (new_cell rfl) (by have := HSL.out; simp <;> omega) (by have := K1.out.size; simp; omega) ?_; intro v5 w5 o5 b5; have K5 := Lib.hid ((K1.out.call ((Below.refl _ _).alloc (Nat.le_refl _) _)).app b5 o5); clear o5 b5; have l5 := K5.out.box.lt; have c57 := K5.out.box.c7)
    | (at_builtin; refine append_list _ rfl (.tmp 37) (.tmp 39) rfl (w.heap.size + 1) Try.underlying26 info64 _ _ rfl K5.out.own _ _ _ xs rfl (HR.out.below K5.out.below) (by have := HSL.out; simp; omega) K5.out.size ?_; intro v6 w6 o6 b6; have K6 := Lib.hid (K5.out.app b6 o6); clear o6 b6))
  have hz := K6.out.makes2 (c := 0)
  rw [List.append_assoc] at hz
  go_ret2
  exact hz
set_option maxHeartbeats 1000000 in
set_option maxRecDepth 100000 in
theorem iBody10 (a q t m r s k : Int) (ao : Option Addr) (cap : Nat) (xs : List Int) (w : World) (hr : Rd w ao xs.length xs) (hn : xs.length ≤ 1048576) (hf : isFrame ⟨a, q, t, m, r, s, k, xs⟩ = true) (hx : hasState a = true) (hy : hasData a = false) : Calls Try.prog 74 #[.agg #[.int .i64 a, .int .i64 q, .int .i64 t, .int .i64 m, .int .i64 r, .int .i64 s, .int .i64 k, .slice ao xs.length cap]] w (Makes2 2 w (frameBytes ⟨a, q, t, m, r, s, k, xs⟩) 0) := by
  have hp := isFrame_parts hf
  simp only at hp
  have ha := inRange_iff.1 hp.1
  have hq := hp.2.1
  have hsz := sizeOk_le hp.2.2.2.1
  have hxl : xs.length ≤ 32 := by omega
  have hw1 : IntKind.i64.wrap (a * 64) = a * 64 := by rw [IntKind.wrap_i64]; omega
  have hw2 : IntKind.i64.wrap (q * 8) = q * 8 := by rw [IntKind.wrap_i64]; omega
  have hor := head_or ha hq
  have hb := body_parts (q := q) (t := t) (m := m) (r := r) (s := s) (k := k) (xs := xs) hx hy
  obtain ⟨hd, hhd⟩ : ∃ hd, a * 64 + q * 8 = hd := ⟨_, rfl⟩
  rw [hhd] at hor hb
  have hadd : wrap64 (a * 64 + q * 8) = hd := by rw [← hhd]; unfold wrap64; omega
  have hsl := stBytes_len t m r s k
  have hst := fun w => bytesOfState_any t m r s k w
  have hst2 := fun w => l04Bits_any t m r s k w
  have hst3 : bytesTo (stateBits t m r s k) ((stateBits t m r s k).length / 8) = stBytes t m r s k := by rw [stateBits_len]; rfl
  have hst4 := stateBits_len t m r s k
  have hst5 := stateBits_bits t m r s k
  generalize stateBits t m r s k = sb at hst2 hst3 hst4 hst5
  generalize stBytes t m r s k = st at hb hsl hst hst3
  have hb' : frameBytes ⟨a, q, t, m, r, s, k, xs⟩ = [hd] ++ st := by rw [hb]; simp
  rw [hb']
  have hne := hasState_ne hp.1
  rw [hx] at hne
  have HNE := Lib.hid hne; have HX := Lib.hid hx; have HY := Lib.hid hy; have HF := Lib.hid hf; have HSL := Lib.hid hsl; have HST := Lib.hid hst; have HS2 := Lib.hid hst2; have HS3 := Lib.hid hst3; have HS4 := Lib.hid hst4; have HS5 := Lib.hid hst5; have HHD := Lib.hid hhd; have HP := Lib.hid (show 0 ≤ a ∧ a ≤ 3 ∧ 0 ≤ q ∧ q ≤ 7 from by omega)
  clear hx hy hf hp hb hb' ha hq hsz hne hsl hst hst2 hst3 hst4 hst5 hhd
  have hb0 : Below w.heap.size w (w.alloc (.cells #[.int .i64 a, .int .i64 q, .int .i64 t, .int .i64 m, .int .i64 r, .int .i64 s, .int .i64 k, .slice ao xs.length cap] 28)) := (Below.refl _ _).alloc (Nat.le_refl _) _
  have HR := Lib.hid hr; clear hr
  go_enter Try.func74, Try.ntmps74
  go_wp2_with fail
  refine (isFrame_any _ _ _ _ _ _ _ _ _ _ _ (HR.out.below hb0) hn).mono ?_
  rintro e w1 ⟨rfl, b1⟩
  rw [HF.out]
  have A1 := Lib.hid (frame_new b1)
  have B1 := Lib.hid (below_box b1)
  clear b1 hb0
  have c0 := A1.out.c0
  have c1 := A1.out.c1
  have lA := A1.out.lt
  go_wp2_with fail
  clear c0 c1 lA
  refine (hasStateAndData_any _ _).mono ?_
  rintro e w1' ⟨rfl, rfl⟩
  rw [HX.out, HY.out]
  have K1 := Lib.hid (Built.lit hd A1.out B1.out)
  generalize w1.alloc (.cells #[.int .i64 hd] 2) = w2 at K1 ⊢
  clear A1 B1
  have c2 := K1.out.box.c2
  have c3 := K1.out.box.c3
  have c4 := K1.out.box.c4
  have c5 := K1.out.box.c5
  have c6 := K1.out.box.c6
  go_wp2_with fail
  clear c2 c3 c4 c5 c6
  refine (HST.out _).mono ?_
  rintro e w3 m3
  obtain ⟨p3, c3, rfl, -, r3, b3⟩ := m3.get
  have K2 := Lib.hid (K1.out.call b3)
  have R3 := Lib.hid r3
  clear m3 r3 b3 K1
  go_wp2_with (first
    | (at_builtin; refine append_list _ rfl (.tmp 25) (.tmp 28) rfl (w.heap.size + 1) Try.underlying26 info64 _ [hd] rfl K2.out.own _ _ _ st rfl R3.out (by have := HSL.out; simp; omega) K2.out.size ?_; intro v4 w4 o4 b4; have K4 := Lib.hid (K2.out.app b4 o4); clear o4 b4; have l4 := K4.out.box.lt; have c40 := K4.out.box.c0; have c47 := K4.out.box.c7))
  have hz := K4.out.makes2 (c := 0)
  go_ret2
  exact hz
set_option maxHeartbeats 1000000 in
set_option maxRecDepth 100000 in
theorem iBody11 (a q t m r s k : Int) (ao : Option Addr) (cap : Nat) (xs : List Int) (w : World) (hr : Rd w ao xs.length xs) (hn : xs.length ≤ 1048576) (hf : isFrame ⟨a, q, t, m, r, s, k, xs⟩ = true) (hx : hasState a = true) (hy : hasData a = true) : Calls Try.prog 74 #[.agg #[.int .i64 a, .int .i64 q, .int .i64 t, .int .i64 m, .int .i64 r, .int .i64 s, .int .i64 k, .slice ao xs.length cap]] w (Makes2 2 w (frameBytes ⟨a, q, t, m, r, s, k, xs⟩) 0) := by
  have hp := isFrame_parts hf
  simp only at hp
  have ha := inRange_iff.1 hp.1
  have hq := hp.2.1
  have hsz := sizeOk_le hp.2.2.2.1
  have hxl : xs.length ≤ 32 := by omega
  have hw1 : IntKind.i64.wrap (a * 64) = a * 64 := by rw [IntKind.wrap_i64]; omega
  have hw2 : IntKind.i64.wrap (q * 8) = q * 8 := by rw [IntKind.wrap_i64]; omega
  have hor := head_or ha hq
  have hb := body_parts (q := q) (t := t) (m := m) (r := r) (s := s) (k := k) (xs := xs) hx hy
  obtain ⟨hd, hhd⟩ : ∃ hd, a * 64 + q * 8 = hd := ⟨_, rfl⟩
  rw [hhd] at hor hb
  have hadd : wrap64 (a * 64 + q * 8) = hd := by rw [← hhd]; unfold wrap64; omega
  have hsl := stBytes_len t m r s k
  have hst := fun w => bytesOfState_any t m r s k w
  have hst2 := fun w => l04Bits_any t m r s k w
  have hst3 : bytesTo (stateBits t m r s k) ((stateBits t m r s k).length / 8) = stBytes t m r s k := by rw [stateBits_len]; rfl
  have hst4 := stateBits_len t m r s k
  have hst5 := stateBits_bits t m r s k
  generalize stateBits t m r s k = sb at hst2 hst3 hst4 hst5
  generalize stBytes t m r s k = st at hb hsl hst hst3
  have hb' : frameBytes ⟨a, q, t, m, r, s, k, xs⟩ = [hd] ++ st ++ ([(xs.length : Int)] ++ xs) := by rw [hb]; simp
  rw [hb']
  have hne := hasState_ne hp.1
  rw [hx] at hne
  have HNE := Lib.hid hne; have HX := Lib.hid hx; have HY := Lib.hid hy; have HF := Lib.hid hf; have HSL := Lib.hid hsl; have HST := Lib.hid hst; have HS2 := Lib.hid hst2; have HS3 := Lib.hid hst3; have HS4 := Lib.hid hst4; have HS5 := Lib.hid hst5; have HHD := Lib.hid hhd; have HP := Lib.hid (show 0 ≤ a ∧ a ≤ 3 ∧ 0 ≤ q ∧ q ≤ 7 from by omega)
  clear hx hy hf hp hb hb' ha hq hsz hne hsl hst hst2 hst3 hst4 hst5 hhd
  have hb0 : Below w.heap.size w (w.alloc (.cells #[.int .i64 a, .int .i64 q, .int .i64 t, .int .i64 m, .int .i64 r, .int .i64 s, .int .i64 k, .slice ao xs.length cap] 28)) := (Below.refl _ _).alloc (Nat.le_refl _) _
  have HR := Lib.hid hr; clear hr
  go_enter Try.func74, Try.ntmps74
  go_wp2_with fail
  refine (isFrame_any _ _ _ _ _ _ _ _ _ _ _ (HR.out.below hb0) hn).mono ?_
  rintro e w1 ⟨rfl, b1⟩
  rw [HF.out]
  have A1 := Lib.hid (frame_new b1)
  have B1 := Lib.hid (below_box b1)
  clear b1 hb0
  have c0 := A1.out.c0
  have c1 := A1.out.c1
  have lA := A1.out.lt
  go_wp2_with fail
  clear c0 c1 lA
  refine (hasStateAndData_any _ _).mono ?_
  rintro e w1' ⟨rfl, rfl⟩
  rw [HX.out, HY.out]
  have K1 := Lib.hid (Built.lit hd A1.out B1.out)
  generalize w1.alloc (.cells #[.int .i64 hd] 2) = w2 at K1 ⊢
  clear A1 B1
  have c2 := K1.out.box.c2
  have c3 := K1.out.box.c3
  have c4 := K1.out.box.c4
  have c5 := K1.out.box.c5
  have c6 := K1.out.box.c6
  go_wp2_with fail
  clear c2 c3 c4 c5 c6
  refine (HST.out _).mono ?_
  rintro e w3 m3
  obtain ⟨p3, c3, rfl, -, r3, b3⟩ := m3.get
  have K2 := Lib.hid (K1.out.call b3)
  have R3 := Lib.hid r3
  clear m3 r3 b3 K1
  go_wp2_with (first
    | (at_builtin; refine append_list _ rfl (.tmp 25) (.tmp 28) rfl (w.heap.size + 1) Try.underlying26 info64 _ [hd] rfl K2.out.own _ _ _ st rfl R3.out (by have := HSL.out; simp; omega) K2.out.size ?_; intro v4 w4 o4 b4; have K4 := Lib.hid (K2.out.app b4 o4); clear o4 b4; have l4 := K4.out.box.lt; have c40 := K4.out.box.c0; have c47 := K4.out.box.c7)
    | (at_builtin; refine append_one _ rfl (.tmp 31) (.tmp 35) rfl (w.heap.size + 1) Try.underlying26 info64 _ _ rfl (K4.out.own.below ((Below.refl _ _).alloc (Nat.le_refl _) _)) _ _ _ rfl (new_cell rfl) (by have := HSL.out; simp <;> omega) (by have := K4.out.size; simp; omega) ?_; intro v5 w5 o5 b5; have K5 := Lib.hid ((K4.out.call ((Below.refl _ _).alloc (Nat.le_refl _) _)).app b5 o5); clear o5 b5; have l5 := K5.out.box.lt; have c57 := K5.out.box.c7)
    | (at_builtin; refine append_list _ rfl (.tmp 37) (.tmp 39) rfl (w.heap.size + 1) Try.underlying26 info64 _ _ rfl K5.out.own _ _ _ xs rfl (HR.out.below K5.out.below) (by have := HSL.out; simp; omega) K5.out.size ?_; intro v6 w6 o6 b6; have K6 := Lib.hid (K5.out.app b6 o6); clear o6 b6))
  have hz := K6.out.makes2 (c := 0)
  rw [List.append_assoc] at hz
  go_ret2
  exact hz
set_option maxHeartbeats 1000000 in
set_option maxRecDepth 100000 in
theorem sBody00 (a q t m r s k : Int) (ao : Option Addr) (cap : Nat) (xs : List Int) (w : World) (hr : Rd w ao xs.length xs) (hn : xs.length ≤ 1048576) (hf : isFrame ⟨a, q, t, m, r, s, k, xs⟩ = true) (hx : hasState a = false) (hy : hasData a = false) : Calls Try.prog 83 #[.agg #[.int .i64 a, .int .i64 q, .int .i64 t, .int .i64 m, .int .i64 r, .int .i64 s, .int .i64 k, .slice ao xs.length cap]] w (Makes 2 w (frameBytes ⟨a, q, t, m, r, s, k, xs⟩)) := by
  have hp := isFrame_parts hf
  simp only at hp
  have ha := inRange_iff.1 hp.1
  have hq := hp.2.1
  have hsz := sizeOk_le hp.2.2.2.1
  have hxl : xs.length ≤ 32 := by omega
  have hw1 : IntKind.i64.wrap (a * 64) = a * 64 := by rw [IntKind.wrap_i64]; omega
  have hw2 : IntKind.i64.wrap (q * 8) = q * 8 := by rw [IntKind.wrap_i64]; omega
  have hor := head_or ha hq
  have hb := body_parts (q := q) (t := t) (m := m) (r := r) (s := s) (k := k) (xs := xs) hx hy
  obtain ⟨hd, hhd⟩ : ∃ hd, a * 64 + q * 8 = hd := ⟨_, rfl⟩
  rw [hhd] at hor hb
  have hadd : wrap64 (a * 64 + q * 8) = hd := by rw [← hhd]; unfold wrap64; omega
  have hsl := stBytes_len t m r s k
  have hst := fun w => bytesOfState_any t m r s k w
  have hst2 := fun w => l04Bits_any t m r s k w
  have hst3 : bytesTo (stateBits t m r s k) ((stateBits t m r s k).length / 8) = stBytes t m r s k := by rw [stateBits_len]; rfl
  have hst4 := stateBits_len t m r s k
  have hst5 := stateBits_bits t m r s k
  generalize stateBits t m r s k = sb at hst2 hst3 hst4 hst5
  generalize stBytes t m r s k = st at hb hsl hst hst3
  have hb' : frameBytes ⟨a, q, t, m, r, s, k, xs⟩ = [hd] := by rw [hb]; simp
  rw [hb']
  have hne := hasState_ne hp.1
  rw [hx] at hne
  have HNE := Lib.hid hne; have HX := Lib.hid hx; have HY := Lib.hid hy; have HF := Lib.hid hf; have HSL := Lib.hid hsl; have HST := Lib.hid hst; have HS2 := Lib.hid hst2; have HS3 := Lib.hid hst3; have HS4 := Lib.hid hst4; have HS5 := Lib.hid hst5; have HHD := Lib.hid hhd; have HP := Lib.hid (show 0 ≤ a ∧ a ≤ 3 ∧ 0 ≤ q ∧ q ≤ 7 from by omega)
  clear hx hy hf hp hb hb' ha hq hsz hne hsl hst hst2 hst3 hst4 hst5 hhd
  have hb0 : Below w.heap.size w (w.alloc (.cells #[.int .i64 a, .int .i64 q, .int .i64 t, .int .i64 m, .int .i64 r, .int .i64 s, .int .i64 k, .slice ao xs.length cap] 28)) := (Below.refl _ _).alloc (Nat.le_refl _) _
  have HR := Lib.hid hr; clear hr
  go_enter Try.func83, Try.ntmps83
  have A1 := Lib.hid (frame_new (T := 28) (a := a) (q := q) (t := t) (m := m) (r := r) (s := s) (k := k) (v := .slice ao xs.length cap) (Below.refl (w.alloc (.cells #[.int .i64 a, .int .i64 q, .int .i64 t, .int .i64 m, .int .i64 r, .int .i64 s, .int .i64 k, .slice ao xs.length cap] 28)).heap.size (w.alloc (.cells #[.int .i64 a, .int .i64 q, .int .i64 t, .int .i64 m, .int .i64 r, .int .i64 s, .int .i64 k, .slice ao xs.length cap] 28))))
  have B1 := Lib.hid hb0
  clear hb0
  have K1 := Lib.hid (Built.lit hd A1.out B1.out)
  rw [show (w.alloc (.cells #[.int .i64 a, .int .i64 q, .int .i64 t, .int .i64 m, .int .i64 r, .int .i64 s, .int .i64 k, .slice ao xs.length cap] 28)).heap.size = w.heap.size + 1 from by simp] at K1
  go_wp2_with fail
  refine (l06State_any _ _).mono ?_
  rintro e w1' ⟨rfl, rfl⟩
  rw [HNE.out]
  generalize (w.alloc (.cells #[.int .i64 a, .int .i64 q, .int .i64 t, .int .i64 m, .int .i64 r, .int .i64 s, .int .i64 k, .slice ao xs.length cap] 28)).alloc (.cells #[.int .i64 hd] 2) = w2 at K1 ⊢
  clear A1 B1
  have l4 := K1.out.box.lt
  have c40 := K1.out.box.c0
  have c47 := K1.out.box.c7
  go_wp2_with (first
    | (go_at_call 129; refine (l06Data_any _ _).mono ?_; rintro e w4' ⟨rfl, rfl⟩; rw [HY.out]))
  have hz := K1.out.makes
  go_ret
  exact hz
set_option maxHeartbeats 1000000 in
set_option maxRecDepth 100000 in
theorem sBody01 (a q t m r s k : Int) (ao : Option Addr) (cap : Nat) (xs : List Int) (w : World) (hr : Rd w ao xs.length xs) (hn : xs.length ≤ 1048576) (hf : isFrame ⟨a, q, t, m, r, s, k, xs⟩ = true) (hx : hasState a = false) (hy : hasData a = true) : Calls Try.prog 83 #[.agg #[.int .i64 a, .int .i64 q, .int .i64 t, .int .i64 m, .int .i64 r, .int .i64 s, .int .i64 k, .slice ao xs.length cap]] w (Makes 2 w (frameBytes ⟨a, q, t, m, r, s, k, xs⟩)) := by
  have hp := isFrame_parts hf
  simp only at hp
  have ha := inRange_iff.1 hp.1
  have hq := hp.2.1
  have hsz := sizeOk_le hp.2.2.2.1
  have hxl : xs.length ≤ 32 := by omega
  have hw1 : IntKind.i64.wrap (a * 64) = a * 64 := by rw [IntKind.wrap_i64]; omega
  have hw2 : IntKind.i64.wrap (q * 8) = q * 8 := by rw [IntKind.wrap_i64]; omega
  have hor := head_or ha hq
  have hb := body_parts (q := q) (t := t) (m := m) (r := r) (s := s) (k := k) (xs := xs) hx hy
  obtain ⟨hd, hhd⟩ : ∃ hd, a * 64 + q * 8 = hd := ⟨_, rfl⟩
  rw [hhd] at hor hb
  have hadd : wrap64 (a * 64 + q * 8) = hd := by rw [← hhd]; unfold wrap64; omega
  have hsl := stBytes_len t m r s k
  have hst := fun w => bytesOfState_any t m r s k w
  have hst2 := fun w => l04Bits_any t m r s k w
  have hst3 : bytesTo (stateBits t m r s k) ((stateBits t m r s k).length / 8) = stBytes t m r s k := by rw [stateBits_len]; rfl
  have hst4 := stateBits_len t m r s k
  have hst5 := stateBits_bits t m r s k
  generalize stateBits t m r s k = sb at hst2 hst3 hst4 hst5
  generalize stBytes t m r s k = st at hb hsl hst hst3
  have hb' : frameBytes ⟨a, q, t, m, r, s, k, xs⟩ = [hd] ++ ([(xs.length : Int)] ++ xs) := by rw [hb]; simp
  rw [hb']
  have hne := hasState_ne hp.1
  rw [hx] at hne
  have HNE := Lib.hid hne; have HX := Lib.hid hx; have HY := Lib.hid hy; have HF := Lib.hid hf; have HSL := Lib.hid hsl; have HST := Lib.hid hst; have HS2 := Lib.hid hst2; have HS3 := Lib.hid hst3; have HS4 := Lib.hid hst4; have HS5 := Lib.hid hst5; have HHD := Lib.hid hhd; have HP := Lib.hid (show 0 ≤ a ∧ a ≤ 3 ∧ 0 ≤ q ∧ q ≤ 7 from by omega)
  clear hx hy hf hp hb hb' ha hq hsz hne hsl hst hst2 hst3 hst4 hst5 hhd
  have hb0 : Below w.heap.size w (w.alloc (.cells #[.int .i64 a, .int .i64 q, .int .i64 t, .int .i64 m, .int .i64 r, .int .i64 s, .int .i64 k, .slice ao xs.length cap] 28)) := (Below.refl _ _).alloc (Nat.le_refl _) _
  have HR := Lib.hid hr; clear hr
  go_enter Try.func83, Try.ntmps83
  have A1 := Lib.hid (frame_new (T := 28) (a := a) (q := q) (t := t) (m := m) (r := r) (s := s) (k := k) (v := .slice ao xs.length cap) (Below.refl (w.alloc (.cells #[.int .i64 a, .int .i64 q, .int .i64 t, .int .i64 m, .int .i64 r, .int .i64 s, .int .i64 k, .slice ao xs.length cap] 28)).heap.size (w.alloc (.cells #[.int .i64 a, .int .i64 q, .int .i64 t, .int .i64 m, .int .i64 r, .int .i64 s, .int .i64 k, .slice ao xs.length cap] 28))))
  have B1 := Lib.hid hb0
  clear hb0
  have K1 := Lib.hid (Built.lit hd A1.out B1.out)
  rw [show (w.alloc (.cells #[.int .i64 a, .int .i64 q, .int .i64 t, .int .i64 m, .int .i64 r, .int .i64 s, .int .i64 k, .slice ao xs.length cap] 28)).heap.size = w.heap.size + 1 from by simp] at K1
  go_wp2_with fail
  refine (l06State_any _ _).mono ?_
  rintro e w1' ⟨rfl, rfl⟩
  rw [HNE.out]
  generalize (w.alloc (.cells #[.int .i64 a, .int .i64 q, .int .i64 t, .int .i64 m, .int .i64 r, .int .i64 s, .int .i64 k, .slice ao xs.length cap] 28)).alloc (.cells #[.int .i64 hd] 2) = w2 at K1 ⊢
  clear A1 B1
  have l4 := K1.out.box.lt
  have c40 := K1.out.box.c0
  have c47 := K1.out.box.c7
  go_wp2_with (first
    | (go_at_call 129; refine (l06Data_any _ _).mono ?_; rintro e w4' ⟨rfl, rfl⟩; rw [HY.out])
    | (at_builtin; refine append_one _ rfl (.tmp 24) (.tmp 28) rfl (w.heap.size + 1) Try.underlying26 info64 _ _ rfl (K1.out.own.below ((Below.refl _ _).alloc (Nat.le_refl _) _)) _ _ _ rfl (new_cell rfl) (by have := HSL.out; simp <;> omega) (by have := K1.out.size; simp; omega) ?_; intro v5 w5 o5 b5; have K5 := Lib.hid ((K1.out.call ((Below.refl _ _).alloc (Nat.le_refl _) _)).app b5 o5); clear o5 b5; have l5 := K5.out.box.lt; have c57 := K5.out.box.c7)
    | (at_builtin; refine append_list _ rfl (.tmp 30) (.tmp 32) rfl (w.heap.size + 1) Try.underlying26 info64 _ _ rfl K5.out.own _ _ _ xs rfl (HR.out.below K5.out.below) (by have := HSL.out; simp; omega) K5.out.size ?_; intro v6 w6 o6 b6; have K6 := Lib.hid (K5.out.app b6 o6); clear o6 b6))
  have hz := K6.out.makes
  rw [List.append_assoc] at hz
  go_ret
  exact hz
set_option maxHeartbeats 1000000 in
set_option maxRecDepth 100000 in
theorem sBody10 (a q t m r s k : Int) (ao : Option Addr) (cap : Nat) (xs : List Int) (w : World) (hr : Rd w ao xs.length xs) (hn : xs.length ≤ 1048576) (hf : isFrame ⟨a, q, t, m, r, s, k, xs⟩ = true) (hx : hasState a = true) (hy : hasData a = false) : Calls Try.prog 83 #[.agg #[.int .i64 a, .int .i64 q, .int .i64 t, .int .i64 m, .int .i64 r, .int .i64 s, .int .i64 k, .slice ao xs.length cap]] w (Makes 2 w (frameBytes ⟨a, q, t, m, r, s, k, xs⟩)) := by
  have hp := isFrame_parts hf
  simp only at hp
  have ha := inRange_iff.1 hp.1
  have hq := hp.2.1
  have hsz := sizeOk_le hp.2.2.2.1
  have hxl : xs.length ≤ 32 := by omega
  have hw1 : IntKind.i64.wrap (a * 64) = a * 64 := by rw [IntKind.wrap_i64]; omega
  have hw2 : IntKind.i64.wrap (q * 8) = q * 8 := by rw [IntKind.wrap_i64]; omega
  have hor := head_or ha hq
  have hb := body_parts (q := q) (t := t) (m := m) (r := r) (s := s) (k := k) (xs := xs) hx hy
  obtain ⟨hd, hhd⟩ : ∃ hd, a * 64 + q * 8 = hd := ⟨_, rfl⟩
  rw [hhd] at hor hb
  have hadd : wrap64 (a * 64 + q * 8) = hd := by rw [← hhd]; unfold wrap64; omega
  have hsl := stBytes_len t m r s k
  have hst := fun w => bytesOfState_any t m r s k w
  have hst2 := fun w => l04Bits_any t m r s k w
  have hst3 : bytesTo (stateBits t m r s k) ((stateBits t m r s k).length / 8) = stBytes t m r s k := by rw [stateBits_len]; rfl
  have hst4 := stateBits_len t m r s k
  have hst5 := stateBits_bits t m r s k
  generalize stateBits t m r s k = sb at hst2 hst3 hst4 hst5
  generalize stBytes t m r s k = st at hb hsl hst hst3
  have hb' : frameBytes ⟨a, q, t, m, r, s, k, xs⟩ = [hd] ++ st := by rw [hb]; simp
  rw [hb']
  have hne := hasState_ne hp.1
  rw [hx] at hne
  have HNE := Lib.hid hne; have HX := Lib.hid hx; have HY := Lib.hid hy; have HF := Lib.hid hf; have HSL := Lib.hid hsl; have HST := Lib.hid hst; have HS2 := Lib.hid hst2; have HS3 := Lib.hid hst3; have HS4 := Lib.hid hst4; have HS5 := Lib.hid hst5; have HHD := Lib.hid hhd; have HP := Lib.hid (show 0 ≤ a ∧ a ≤ 3 ∧ 0 ≤ q ∧ q ≤ 7 from by omega)
  clear hx hy hf hp hb hb' ha hq hsz hne hsl hst hst2 hst3 hst4 hst5 hhd
  have hb0 : Below w.heap.size w (w.alloc (.cells #[.int .i64 a, .int .i64 q, .int .i64 t, .int .i64 m, .int .i64 r, .int .i64 s, .int .i64 k, .slice ao xs.length cap] 28)) := (Below.refl _ _).alloc (Nat.le_refl _) _
  have HR := Lib.hid hr; clear hr
  go_enter Try.func83, Try.ntmps83
  have A1 := Lib.hid (frame_new (T := 28) (a := a) (q := q) (t := t) (m := m) (r := r) (s := s) (k := k) (v := .slice ao xs.length cap) (Below.refl (w.alloc (.cells #[.int .i64 a, .int .i64 q, .int .i64 t, .int .i64 m, .int .i64 r, .int .i64 s, .int .i64 k, .slice ao xs.length cap] 28)).heap.size (w.alloc (.cells #[.int .i64 a, .int .i64 q, .int .i64 t, .int .i64 m, .int .i64 r, .int .i64 s, .int .i64 k, .slice ao xs.length cap] 28))))
  have B1 := Lib.hid hb0
  clear hb0
  have K1 := Lib.hid (Built.lit hd A1.out B1.out)
  rw [show (w.alloc (.cells #[.int .i64 a, .int .i64 q, .int .i64 t, .int .i64 m, .int .i64 r, .int .i64 s, .int .i64 k, .slice ao xs.length cap] 28)).heap.size = w.heap.size + 1 from by simp] at K1
  go_wp2_with fail
  refine (l06State_any _ _).mono ?_
  rintro e w1' ⟨rfl, rfl⟩
  rw [HNE.out]
  generalize (w.alloc (.cells #[.int .i64 a, .int .i64 q, .int .i64 t, .int .i64 m, .int .i64 r, .int .i64 s, .int .i64 k, .slice ao xs.length cap] 28)).alloc (.cells #[.int .i64 hd] 2) = w2 at K1 ⊢
  clear A1 B1
  have c2 := K1.out.box.c2
  have c3 := K1.out.box.c3
  have c4 := K1.out.box.c4
  have c5 := K1.out.box.c5
  have c6 := K1.out.box.c6
  go_wp2_with fail
  clear c2 c3 c4 c5 c6
  refine (HS2.out _).mono ?_
  rintro e w3' m3'
  obtain ⟨p3', c3', rfl, o3', r3', b3'⟩ := m3'.get
  have K2' := Lib.hid (K1.out.call b3')
  clear m3' b3' K1
  go_wp2_with fail
  refine (l01Bytes_any _ _ _ _ r3' (by have := HS4.out; omega) HS5.out).mono ?_
  rintro e w3 m3
  rw [HS3.out] at m3
  obtain ⟨p3, c3, rfl, -, r3, b3⟩ := m3.get
  have K2 := Lib.hid (K2'.out.call b3)
  have R3 := Lib.hid r3
  clear m3 r3 b3 K2' r3' o3'
  go_wp2_with (first
    | (at_builtin; refine append_list _ rfl (.tmp 15) (.tmp 19) rfl (w.heap.size + 1) Try.underlying26 info64 _ [hd] rfl K2.out.own _ _ _ st rfl R3.out (by have := HSL.out; simp; omega) K2.out.size ?_; intro v4 w4 o4 b4; have K4 := Lib.hid (K2.out.app b4 o4); clear o4 b4; have l4 := K4.out.box.lt; have c40 := K4.out.box.c0; have c47 := K4.out.box.c7)
    | (go_at_call 129; refine (l06Data_any _ _).mono ?_; rintro e w4' ⟨rfl, rfl⟩; rw [HY.out]))
  have hz := K4.out.makes
  go_ret
  exact hz
set_option maxHeartbeats 1000000 in
set_option maxRecDepth 100000 in
theorem sBody11 (a q t m r s k : Int) (ao : Option Addr) (cap : Nat) (xs : List Int) (w : World) (hr : Rd w ao xs.length xs) (hn : xs.length ≤ 1048576) (hf : isFrame ⟨a, q, t, m, r, s, k, xs⟩ = true) (hx : hasState a = true) (hy : hasData a = true) : Calls Try.prog 83 #[.agg #[.int .i64 a, .int .i64 q, .int .i64 t, .int .i64 m, .int .i64 r, .int .i64 s, .int .i64 k, .slice ao xs.length cap]] w (Makes 2 w (frameBytes ⟨a, q, t, m, r, s, k, xs⟩)) := by
  have hp := isFrame_parts hf
  simp only at hp
  have ha := inRange_iff.1 hp.1
  have hq := hp.2.1
  have hsz := sizeOk_le hp.2.2.2.1
  have hxl : xs.length ≤ 32 := by omega
  have hw1 : IntKind.i64.wrap (a * 64) = a * 64 := by rw [IntKind.wrap_i64]; omega
  have hw2 : IntKind.i64.wrap (q * 8) = q * 8 := by rw [IntKind.wrap_i64]; omega
  have hor := head_or ha hq
  have hb := body_parts (q := q) (t := t) (m := m) (r := r) (s := s) (k := k) (xs := xs) hx hy
  obtain ⟨hd, hhd⟩ : ∃ hd, a * 64 + q * 8 = hd := ⟨_, rfl⟩
  rw [hhd] at hor hb
  have hadd : wrap64 (a * 64 + q * 8) = hd := by rw [← hhd]; unfold wrap64; omega
  have hsl := stBytes_len t m r s k
  have hst := fun w => bytesOfState_any t m r s k w
  have hst2 := fun w => l04Bits_any t m r s k w
  have hst3 : bytesTo (stateBits t m r s k) ((stateBits t m r s k).length / 8) = stBytes t m r s k := by rw [stateBits_len]; rfl
  have hst4 := stateBits_len t m r s k
  have hst5 := stateBits_bits t m r s k
  generalize stateBits t m r s k = sb at hst2 hst3 hst4 hst5
  generalize stBytes t m r s k = st at hb hsl hst hst3
  have hb' : frameBytes ⟨a, q, t, m, r, s, k, xs⟩ = [hd] ++ st ++ ([(xs.length : Int)] ++ xs) := by rw [hb]; simp
  rw [hb']
  have hne := hasState_ne hp.1
  rw [hx] at hne
  have HNE := Lib.hid hne; have HX := Lib.hid hx; have HY := Lib.hid hy; have HF := Lib.hid hf; have HSL := Lib.hid hsl; have HST := Lib.hid hst; have HS2 := Lib.hid hst2; have HS3 := Lib.hid hst3; have HS4 := Lib.hid hst4; have HS5 := Lib.hid hst5; have HHD := Lib.hid hhd; have HP := Lib.hid (show 0 ≤ a ∧ a ≤ 3 ∧ 0 ≤ q ∧ q ≤ 7 from by omega)
  clear hx hy hf hp hb hb' ha hq hsz hne hsl hst hst2 hst3 hst4 hst5 hhd
  have hb0 : Below w.heap.size w (w.alloc (.cells #[.int .i64 a, .int .i64 q, .int .i64 t, .int .i64 m, .int .i64 r, .int .i64 s, .int .i64 k, .slice ao xs.length cap] 28)) := (Below.refl _ _).alloc (Nat.le_refl _) _
  have HR := Lib.hid hr; clear hr
  go_enter Try.func83, Try.ntmps83
  have A1 := Lib.hid (frame_new (T := 28) (a := a) (q := q) (t := t) (m := m) (r := r) (s := s) (k := k) (v := .slice ao xs.length cap) (Below.refl (w.alloc (.cells #[.int .i64 a, .int .i64 q, .int .i64 t, .int .i64 m, .int .i64 r, .int .i64 s, .int .i64 k, .slice ao xs.length cap] 28)).heap.size (w.alloc (.cells #[.int .i64 a, .int .i64 q, .int .i64 t, .int .i64 m, .int .i64 r, .int .i64 s, .int .i64 k, .slice ao xs.length cap] 28))))
  have B1 := Lib.hid hb0
  clear hb0
  have K1 := Lib.hid (Built.lit hd A1.out B1.out)
  rw [show (w.alloc (.cells #[.int .i64 a, .int .i64 q, .int .i64 t, .int .i64 m, .int .i64 r, .int .i64 s, .int .i64 k, .slice ao xs.length cap] 28)).heap.size = w.heap.size + 1 from by simp] at K1
  go_wp2_with fail
  refine (l06State_any _ _).mono ?_
  rintro e w1' ⟨rfl, rfl⟩
  rw [HNE.out]
  generalize (w.alloc (.cells #[.int .i64 a, .int .i64 q, .int .i64 t, .int .i64 m, .int .i64 r, .int .i64 s, .int .i64 k, .slice ao xs.length cap] 28)).alloc (.cells #[.int .i64 hd] 2) = w2 at K1 ⊢
  clear A1 B1
  have c2 := K1.out.box.c2
  have c3 := K1.out.box.c3
  have c4 := K1.out.box.c4
  have c5 := K1.out.box.c5
  have c6 := K1.out.box.c6
  go_wp2_with fail
  clear c2 c3 c4 c5 c6
  refine (HS2.out _).mono ?_
  rintro e w3' m3'
  obtain ⟨p3', c3', rfl, o3', r3', b3'⟩ := m3'.get
  have K2' := Lib.hid (K1.out.call b3')
  clear m3' b3' K1
  go_wp2_with fail
  refine (l01Bytes_any _ _ _ _ r3' (by have := HS4.out; omega) HS5.out).mono ?_
  rintro e w3 m3
  rw [HS3.out] at m3
  obtain ⟨p3, c3, rfl, -, r3, b3⟩ := m3.get
  have K2 := Lib.hid (K2'.out.call b3)
  have R3 := Lib.hid r3
  clear m3 r3 b3 K2' r3' o3'
  go_wp2_with (first
    | (at_builtin; refine append_list _ rfl (.tmp 15) (.tmp 19) rfl (w.heap.size + 1) Try.underlying26 info64 _ [hd] rfl K2.out.own _ _ _ st rfl R3.out (by have := HSL.out; simp; omega) K2.out.size ?_; intro v4 w4 o4 b4; have K4 := Lib.hid (K2.out.app b4 o4); clear o4 b4; have l4 := K4.out.box.lt; have c40 := K4.out.box.c0; have c47 := K4.out.box.c7)
    | (go_at_call 129; refine (l06Data_any _ _).mono ?_; rintro e w4' ⟨rfl, rfl⟩; rw [HY.out])
    | (at_builtin; refine append_one _ rfl (.tmp 24) (.tmp 28) rfl (w.heap.size + 1) Try.underlying26 info64 _ _ rfl (K4.out.own.below ((Below.refl _ _).alloc (Nat.le_refl _) _)) _ _ _ rfl (new_cell rfl) (by have := HSL.out; simp <;> omega) (by have := K4.out.size; simp; omega) ?_; intro v5 w5 o5 b5; have K5 := Lib.hid ((K4.out.call ((Below.refl _ _).alloc (Nat.le_refl _) _)).app b5 o5); clear o5 b5; have l5 := K5.out.box.lt; have c57 := K5.out.box.c7)
    | (at_builtin; refine append_list _ rfl (.tmp 30) (.tmp 32) rfl (w.heap.size + 1) Try.underlying26 info64 _ _ rfl K5.out.own _ _ _ xs rfl (HR.out.below K5.out.below) (by have := HSL.out; simp; omega) K5.out.size ?_; intro v6 w6 o6 b6; have K6 := Lib.hid (K5.out.app b6 o6); clear o6 b6))
  have hz := K6.out.makes
  rw [List.append_assoc] at hz
  go_ret
  exact hz
theorem frameBody_any (a q t m r s k : Int) (ao : Option Addr) (cap : Nat) (xs : List Int) (w : World) (hr : Rd w ao xs.length xs) (hn : xs.length ≤ 1048576) : Calls Try.prog 74 #[.agg #[.int .i64 a, .int .i64 q, .int .i64 t, .int .i64 m, .int .i64 r, .int .i64 s, .int .i64 k, .slice ao xs.length cap]] w (Makes2 2 w (frameBody ⟨a, q, t, m, r, s, k, xs⟩).1 (frameBody ⟨a, q, t, m, r, s, k, xs⟩).2) := by
  rcases hf : isFrame ⟨a, q, t, m, r, s, k, xs⟩ with _ | _
  · rw [body_no hf]
    have HF := Lib.hid hf; clear hf
    have hb : Below w.heap.size w (w.alloc (.cells #[.int .i64 a, .int .i64 q, .int .i64 t, .int .i64 m, .int .i64 r, .int .i64 s, .int .i64 k, .slice ao xs.length cap] 28)) := (Below.refl _ _).alloc (Nat.le_refl _) _
    have HR := Lib.hid (hr.below hb); clear hr hb
    go_enter Try.func74, Try.ntmps74
    go_wp2_with (go_at_call 52; refine (isFrame_any _ _ _ _ _ _ _ _ _ _ _ HR.out hn).mono ?_; rintro e w1 ⟨rfl, b1⟩; rw [HF.out])
    go_ret2
    exact ⟨_, rfl, Own.nil_, below_box b1⟩
  · rw [body_ok hf]
    rcases hx : hasState a with _ | _ <;> rcases hy : hasData a with _ | _
    · exact iBody00 a q t m r s k ao cap xs w hr hn hf hx hy
    · exact iBody01 a q t m r s k ao cap xs w hr hn hf hx hy
    · exact iBody10 a q t m r s k ao cap xs w hr hn hf hx hy
    · exact iBody11 a q t m r s k ao cap xs w hr hn hf hx hy
theorem l06Body_any (a q t m r s k : Int) (ao : Option Addr) (cap : Nat) (xs : List Int) (w : World) (hr : Rd w ao xs.length xs) (hn : xs.length ≤ 1048576) (hf : isFrame ⟨a, q, t, m, r, s, k, xs⟩ = true) : Calls Try.prog 83 #[.agg #[.int .i64 a, .int .i64 q, .int .i64 t, .int .i64 m, .int .i64 r, .int .i64 s, .int .i64 k, .slice ao xs.length cap]] w (Makes 2 w (frameBytes ⟨a, q, t, m, r, s, k, xs⟩)) := by
  rcases hx : hasState a with _ | _ <;> rcases hy : hasData a with _ | _
  · exact sBody00 a q t m r s k ao cap xs w hr hn hf hx hy
  · exact sBody01 a q t m r s k ao cap xs w hr hn hf hx hy
  · exact sBody10 a q t m r s k ao cap xs w hr hn hf hx hy
  · exact sBody11 a q t m r s k ao cap xs w hr hn hf hx hy
end

section
open Go.RowKit

/-- A frame handed back with a flag, its data a slice of the call's own; all old memory as it was. -/
def GivesFB (w : World) (f : Fr) (c : Value) (e : Ending) (w' : World) : Prop :=
  ∃ ao cap, e = .returned (.tuple #[.agg #[.int .i64 f.kind, .int .i64 f.req, .int .i64 f.t, .int .i64 f.m, .int .i64 f.r, .int .i64 f.s, .int .i64 f.k, .slice ao f.data.length cap], c]) ∧ Own 2 w' w.heap.size (.slice ao f.data.length cap) f.data ∧ Below w.heap.size w w'
/-- What a reader hands back: a frame and true, or the zero value and false. -/
def GivesOpt (w : World) (x : Option Fr) (e : Ending) (w' : World) : Prop := match x with
  | none => GivesFB w Fr.zero (.bool false) e w'
  | some f => GivesFB w f (.bool true) e w'
theorem bytes_part {xs : List Int} (h : ∀ x ∈ xs, 0 ≤ x ∧ x ≤ 255) (hl : xs.length ≤ 1024) : isBytes xs = true := isBytes_iff.2 ⟨hl, h⟩
theorem flat_bits8 (xs : List Int) : ∀ x ∈ bitsOf8 xs, 0 ≤ x ∧ x ≤ 1 := by
  intro x hx
  obtain ⟨y, -, hy⟩ := List.mem_flatMap.1 hx
  exact bitsOf_bits _ _ x hy
theorem bits8_len (xs : List Int) : (bitsOf8 xs).length = 8 * xs.length := flat_len xs
theorem stateOfBytes_any (ao : Option Addr) (cap : Nat) (xs : List Int) (w : World) (hr : Rd w ao 8 xs) (hb : ∀ x ∈ xs, 0 ≤ x ∧ x ≤ 255) :
    Calls Try.prog 155 #[.slice ao 8 cap] w (GivesState w (numIn (bitsOf8 xs) 0 16) (numIn (bitsOf8 xs) 16 4) (numIn (bitsOf8 xs) 20 4) (numIn (bitsOf8 xs) 24 8) (numIn (bitsOf8 xs) 32 32)) := by
  have hl : xs.length = 8 := hr.len
  have hz := bb_0 (bytes_part hb (by omega))
  change bytesToBits xs = (bitsOf8 xs, 0) at hz
  have hs := sf_0 (bits_list (flat_bits8 xs) (by rw [bits8_len]; omega)) (by rw [bits8_len]; omega)
  have hbl := bits8_len xs
  generalize bitsOf8 xs = bs at hz hs hbl ⊢
  generalize numIn bs 0 16 = y0 at hs ⊢
  generalize numIn bs 16 4 = y1 at hs ⊢
  generalize numIn bs 20 4 = y2 at hs ⊢
  generalize numIn bs 24 8 = y3 at hs ⊢
  generalize numIn bs 32 32 = y4 at hs ⊢
  have hB0 : Below w.heap.size w (w.alloc (.cells #[.int .i64 0, .int .i64 0, .int .i64 0, .int .i64 0, .int .i64 0] 25)) := (Below.refl _ _).alloc (Nat.le_refl _) _
  have hcall := bytesToBits_any ao cap xs _ (by rw [hl]; exact hr.below hB0) (by omega)
  rw [hz, hl] at hcall
  simp only at hcall
  have HCALL := Lib.hid hcall
  have HS := Lib.hid hs; have HBL := Lib.hid (show bs.length = 64 from by omega)
  clear hr hb hz hs hbl hB0 hl hcall
  go_enter Try.func155, Try.ntmps155
  go_wp2_with fail
  refine HCALL.out.mono ?_
  rintro e w1 m1
  change Makes2 2 _ bs 0 _ _ at m1
  obtain ⟨p1, c1, rfl, o1, r1, b1⟩ := m1.get
  have Z1 := Lib.hid (state_new b1)
  have B1 := Lib.hid (below_box b1)
  have HC := Own.cap o1
  clear m1 b1 o1
  go_wp2_with fail
  refine (stateFromBits_any _ _ _ _ r1 (by rw [HBL.out]; omega) HC.1 HC.2).mono ?_
  rintro e w2 ⟨rfl, b2⟩
  rw [HS.out]
  simp only
  have Z2 := Lib.hid (Z1.out.below b2 Z1.out.lt)
  have B2 := Lib.hid (below_two B1.out b2)
  clear b2 Z1 B1
  go_upto_region 3 with fail
  have hal : Below w2.heap.size w2 (w2.alloc (.cells #[.int .i64 y0, .int .i64 y1, .int .i64 y2, .int .i64 y3, .int .i64 y4] 25)) := (Below.refl _ _).alloc (Nat.le_refl _) _
  have N3 := Lib.hid (StateAt.new (T := 25) (t := y0) (m := y1) (r := y2) (s := y3) (k := y4) w2)
  have Z3 := Lib.hid (Z2.out.below hal Z2.out.lt)
  have B3 := Lib.hid (below_two B2.out hal)
  obtain ⟨J, hJ⟩ : ∃ b, b = w2.heap.size := ⟨_, rfl⟩
  have hjl : w.heap.size < J := by have := Z2.out.lt; omega
  rw [← hJ] at N3 ⊢
  clear hal Z2 B2 hJ
  generalize w2.alloc (.cells #[.int .i64 y0, .int .i64 y1, .int .i64 y2, .int .i64 y3, .int .i64 y4] 25) = w3 at N3 Z3 B3 ⊢
  have c0 := N3.out.c0
  have c1 := N3.out.c1
  have c2 := N3.out.c2
  have c3 := N3.out.c3
  have c4 := N3.out.c4
  have d0 := Z3.out.c0
  have d1 := Z3.out.c1
  have d2 := Z3.out.c2
  have d3 := Z3.out.c3
  have d4 := Z3.out.c4
  have f0 := Z3.out.f 0
  have f1 := Z3.out.f 1
  have f2 := Z3.out.f 2
  have f3 := Z3.out.f 3
  have f4 := Z3.out.f 4
  go_wp2_with fail
  clear c0 c1 c2 c3 c4 d0 d1 d2 d3 d4 f0 f1 f2 f3 f4
  change bodyPost _ _ _ _ _ (setFive w3 w.heap.size y0 y1 y2 y3 y4)
  have SF := StateAt.five Z3.out y0 y1 y2 y3 y4
  have BF := below_two' B3.out (below_five (B := w.heap.size) (w := w3) (b := w.heap.size) (by omega) y0 y1 y2 y3 y4)
  generalize setFive w3 w.heap.size y0 y1 y2 y3 y4 = wz at SF BF ⊢
  have e0 := SF.c0
  have e1 := SF.c1
  have e2 := SF.c2
  have e3 := SF.c3
  have e4 := SF.c4
  exact bodyPost_ret (v := .agg #[.int .i64 y0, .int .i64 y1, .int .i64 y2, .int .i64 y3, .int .i64 y4]) (by simp [results, Try.results155, go_sem, e0, e1, e2, e3, e4]) rfl ⟨rfl, BF⟩
end
end Go.Proofs.Ytbdfnkhmnglpbaa
