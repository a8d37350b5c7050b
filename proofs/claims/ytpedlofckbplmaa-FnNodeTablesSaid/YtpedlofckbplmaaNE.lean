/-
  Chapter 10: the program's reader: a string of a number of bytes, an entry.
-/
import Derived.Test.YtpedlofckbplmaaNDb
import Derived.Test.YtpedlofckbplmaaNB
import Derived.Test.YtpedlofckbplmaaN9
import Derived.Test.YtpedlofckbplmaaL3
namespace Go.Proofs.Ytpedlofckbplmaa
open Go.RowKit

def GotS (w : World) (p : Nat) (v : ByteArray) (rest' : List Int) (e : Ending) (w' : World) : Prop := e = .returned (.string v) ∧ RdrAt w' p rest' ∧ w.grownBy w' (some p)
theorem text_ok (p s : Nat) (rest : List Int) (w : World) (h : RdrAt w p rest) (hs : s ≤ rest.length) (h2 : s ≤ 255) :
    Calls Try.prog 99 #[.pointer (some ⟨p, 0, none⟩), .int .i64 s] w (GotS w p (strOfNums (rest.take s)) (rest.drop s)) := by
  have hcall := take_ok p s rest w h hs
  have hby := byte_take h.bytes s
  have hl : (rest.take s).length = s := by rw [List.length_take]; omega
  have HC := Lib.hid hcall; clear hcall h hs
  obtain ⟨xs, hxs⟩ : ∃ xs, xs = rest.take s := ⟨_, rfl⟩
  rw [← hxs] at hby hl ⊢
  have HX := Lib.hid hxs; have HBY := Lib.hid hby; have HL := Lib.hid hl; clear hxs hby hl
  go_enter Try.func99, Try.ntmps99
  go_wp2_with fail
  refine HC.out.mono ?_
  rintro e w1 ⟨ao, cap, rfl, hr, hsc, hcm, -, hR, hG⟩
  rw [← HX.out] at hr
  have HR := Lib.hid hr; have HRD := Lib.hid hR; have HG := Lib.hid hG; clear hr hR hG
  have hlt1 : p < w1.heap.size := HRD.out.lt
  go_wp2_with fail
  go_loopw [5, 12] (fun v i wr => ∃ k : Nat, k ≤ s ∧ i = .int .i64 k ∧ OwnK .u8 5 wr w1.heap.size v (xs.take k) ∧ Below w1.heap.size w1 wr) (fun _ i _ => s - (intOf i).toNat)
  case atStart => exact ⟨0, Nat.zero_le _, rfl, World.ownsRow_nil _ _ _ _, Below.refl _ _⟩
  case round =>
    obtain ⟨k, hk, rfl, ho, hb⟩ := hrel
    by_cases hlt : k < s
    · have hrr := HR.out.below hb
      obtain ⟨b, off, rfl, hc⟩ := hrr.here (by omega)
      have hck := hc k hlt
      have hx := HBY.out _ (getD_mem' (xs := xs) (k := k) (by rw [HL.out]; exact hlt))
      have hsn : xs.take (k + 1) = xs.take k ++ [xs.getD k 0] := take_succ' xs k (by rw [HL.out]; exact hlt)
      have hll : (xs.take k).length ≤ 4294967296 := by rw [List.length_take]; omega
      obtain ⟨x, hxe⟩ : ∃ x, x = xs.getD k 0 := ⟨_, rfl⟩
      rw [← hxe] at hck hx hsn
      have hw : IntKind.u8.wrap x = x := by
        simp only [IntKind.wrap, IntKind.signed, IntKind.bits]
        simp
        omega
      have HSN := Lib.hid hsn; have HO := Lib.hid ho; have HB := Lib.hid hb; clear hc hsn hxe ho hb hrr
      go_wp2_with (at_builtin; refine append_byte _ rfl (.tmp 16) (.tmp 19) rfl w1.heap.size Try.underlying22 infoU8 _ _ rfl (HO.out.below ((Below.refl _ _).alloc (Nat.le_refl _) _)) _ _ _ rfl (new_cell rfl) hll (by have := HB.out.size; simp; omega) ?_; intro v2 w2 o2 b2)
      rw [← HSN.out] at o2
      have HO2 := Lib.hid o2; have HB2 := Lib.hid ((HB.out.alloc HB.out.size _).trans b2); clear o2 b2
      go_wp2_with fail
      go_roundw
      case rel => exact ⟨k + 1, by omega, by go_num, HO2.out, HB2.out⟩
      case measure => simp [intOf]; omega
    · have hkn : k = s := by omega
      subst hkn
      have hall : xs.take k = xs := List.take_of_length_le (by rw [HL.out]; exact Nat.le_refl _)
      rw [hall] at ho
      have hcv := ho.string Try.underlying22 Try.underlying5 9 Try.underlying9
      have HRD2 := Lib.hid (HRD.out.below hb hlt1); have HG2 := Lib.hid (grown_trans HG.out (grown_of_b hb _))
      clear ho hb
      go_wp2_with fail
      go_ret
      exact ⟨rfl, HRD2.out, HG2.out⟩
theorem text_bad (p s : Nat) (rest : List Int) (w : World) (h : RdrAt w p rest) (hs : rest.length < s) :
    Calls Try.prog 99 #[.pointer (some ⟨p, 0, none⟩), .int .i64 s] w (Bad w p) := by
  have HC := Lib.hid (take_bad p s rest w h hs); clear h hs
  go_enter Try.func99, Try.ntmps99
  go_wp2_with fail
  refine HC.out.mono ?_
  rintro e w1 ⟨⟨u, v, rfl⟩, g1⟩
  go_wp2_with fail
  exact ⟨rfl, ⟨_, _, rfl⟩, g1⟩

/-- While an entry is read: the result's block, the entry's, the reader. -/
structure EntSt (w W : World) (p : Nat) (rest : List Int) (x : Nd) : Prop where
  lt : p < w.heap.size
  res : NdAt 59 W w.heap.size Nd.zero
  box : NdAt 59 W (w.heap.size + 1) x
  rd : RdrAt W p rest
  g : w.grownBy W (some p)
section
variable {w W W' : World} {p : Nat} {rest rest' : List Int} {d : Int} {s : ByteArray} {f : Int} {c : Bool}
theorem EntSt.start (h : RdrAt w p rest) : EntSt w ((w.alloc (.cells #[.int .i64 0, .string { data := #[] }, .int .i64 0, .bool false] 59)).alloc (.cells #[.int .i64 0, .string { data := #[] }, .int .i64 0, .bool false] 59)) p rest Nd.zero := by
  have e : (w.alloc (.cells #[.int .i64 0, .string { data := #[] }, .int .i64 0, .bool false] 59)).heap.size = w.heap.size + 1 := by simp
  have b1 : Below w.heap.size w (w.alloc (.cells #[.int .i64 0, .string { data := #[] }, .int .i64 0, .bool false] 59)) := (Below.refl _ _).alloc (Nat.le_refl _) _
  have b2 : Below (w.heap.size + 1) (w.alloc (.cells #[.int .i64 0, .string { data := #[] }, .int .i64 0, .bool false] 59)) ((w.alloc (.cells #[.int .i64 0, .string { data := #[] }, .int .i64 0, .bool false] 59)).alloc (.cells #[.int .i64 0, .string { data := #[] }, .int .i64 0, .bool false] 59)) := (Below.refl _ _).alloc (by rw [e]; exact Nat.le_refl _) _
  have r1 : NdAt 59 (w.alloc (.cells #[.int .i64 0, .string { data := #[] }, .int .i64 0, .bool false] 59)) w.heap.size Nd.zero := NdAt.new (x := Nd.zero) w
  have r2 : NdAt 59 ((w.alloc (.cells #[.int .i64 0, .string { data := #[] }, .int .i64 0, .bool false] 59)).alloc (.cells #[.int .i64 0, .string { data := #[] }, .int .i64 0, .bool false] 59)) (w.alloc (.cells #[.int .i64 0, .string { data := #[] }, .int .i64 0, .bool false] 59)).heap.size Nd.zero := NdAt.new (x := Nd.zero) _
  rw [e] at r2
  have hlt := h.lt
  have b3 : Below w.heap.size w ((w.alloc (.cells #[.int .i64 0, .string { data := #[] }, .int .i64 0, .bool false] 59)).alloc (.cells #[.int .i64 0, .string { data := #[] }, .int .i64 0, .bool false] 59)) := b1.trans (b2.mono (Nat.le_succ _))
  exact ⟨hlt, r1.below b2 (Nat.lt_succ_self _), r2, h.below b3 hlt, grown_of_b b3 _⟩
theorem EntSt.call {x : Nd} (h : EntSt w W p rest x) (g : W.grownBy W' (some p)) (r : RdrAt W' p rest') : EntSt w W' p rest' x := by
  have hlt := h.lt
  refine ⟨hlt, h.res.grown g (by simp; omega), h.box.grown g (by simp; omega), r, grown_trans h.g g⟩
theorem EntSt.put {x y : Nd} (h : EntSt w W p rest x) {j : Nat} {v : Value} (hy : NdAt 59 (W.setCell ⟨w.heap.size + 1, j, none⟩ v) (w.heap.size + 1) y) : EntSt w (W.setCell ⟨w.heap.size + 1, j, none⟩ v) p rest y := by
  have hlt := h.lt
  have hb : Below (w.heap.size + 1) W (W.setCell ⟨w.heap.size + 1, j, none⟩ v) := (Below.refl _ _).setCell (by exact Nat.le_refl _) _
  have hs := h.g.size
  refine ⟨hlt, (heap_setCell_other _ _ _ _ (show w.heap.size ≠ w.heap.size + 1 by omega)).trans h.res, hy, h.rd.below hb (by omega), ?_⟩
  exact ⟨h.g.os, h.g.tape, h.g.output, by have := hb.size; omega, fun k hk hne => (hb.block k (by omega)).trans (h.g.block k hk hne)⟩
theorem EntSt.bad {x : Nd} {e : Ending} (h : EntSt w W p rest x) (hb : Bad W p e W') : Bad w p e W' := ⟨hb.1, grown_trans h.g hb.2⟩
end
theorem drop_getD (xs : List Int) (j : Nat) : (xs.drop j).getD 0 0 = xs.getD j 0 := by simp [List.getD, List.getElem?_drop]
theorem drop_getD1 (xs : List Int) (j : Nat) : (xs.drop j).getD 1 0 = xs.getD (j + 1) 0 := by simp [List.getD, List.getElem?_drop]
/-- What an entry's reading leaves. -/
def GotN (w : World) (p : Nat) (x : Nd) (rest' : List Int) (e : Ending) (w' : World) : Prop := e = .returned (ndVal x) ∧ RdrAt w' p rest' ∧ w.grownBy w' (some p)

set_option maxHeartbeats 1000000 in
set_option maxRecDepth 100000 in
theorem entry_ok (p : Nat) (rest : List Int) (w : World) (h : RdrAt w p rest) (hok : okEntry rest = true) :
    Calls Try.prog 58 #[.pointer (some ⟨p, 0, none⟩)] w (GotN w p (theEntry rest) (rest.drop (5 + (rest.getD 4 0).toNat))) := by
  have hby := h.bytes
  obtain ⟨hl5, hfl, hln⟩ := okEntry_iff.1 hok
  clear hok
  have hc0 := fun W (h : RdrAt W p rest) => number_ok p 1 rest W h (by omega) (by omega)
  rw [byteNum_one (by omega)] at hc0
  have hc1 := fun W (h : RdrAt W p (rest.drop 1)) => number_ok p 2 (rest.drop 1) W h (by rw [List.length_drop]; omega) (by omega)
  rw [byteNum_two (by rw [List.length_drop]; omega), drop_getD, drop_getD1, List.drop_drop] at hc1
  have hc2 := fun W (h : RdrAt W p (rest.drop 3)) => flag_ok p (rest.drop 3) W h (by rw [List.length_drop]; omega) (by rw [drop_getD]; exact hfl)
  rw [drop_getD, List.drop_drop] at hc2
  have hc3 := fun W (h : RdrAt W p (rest.drop 4)) => number_ok p 1 (rest.drop 4) W h (by rw [List.length_drop]; omega) (by omega)
  rw [byteNum_one (by rw [List.length_drop]; omega), drop_getD, List.drop_drop] at hc3
  obtain ⟨n, hn⟩ : ∃ n : Nat, n = (rest.getD 4 0).toNat := ⟨_, rfl⟩
  have hn4 := bytes_at hby 4
  have hn0 : rest.getD 4 0 = (n : Int) := by omega
  have hn1 : n ≤ 255 := by omega
  rw [hn0] at hc3
  have hc4 := fun W (h : RdrAt W p (rest.drop 5)) => text_ok p n (rest.drop 5) W h (by rw [List.length_drop, hn]; omega) hn1
  rw [List.drop_drop] at hc4
  have hfin : GotN w p (theEntry rest) (rest.drop (5 + n)) = GotN w p ⟨rest.getD 0 0, strOfNums ((rest.drop 5).take n), rest.getD 1 0 * 256 + rest.getD 2 0, decide (rest.getD 3 0 = 1)⟩ (rest.drop (5 + n)) := by unfold theEntry; rw [← hn]
  rw [← hn, hfin]
  clear hfin
  obtain ⟨s, hse⟩ : ∃ s, s = strOfNums ((rest.drop 5).take n) := ⟨_, rfl⟩
  rw [← hse] at hc4 ⊢
  obtain ⟨v0, hv0⟩ : ∃ v, v = rest.getD 0 0 := ⟨_, rfl⟩
  rw [← hv0] at hc0 ⊢
  obtain ⟨v1, hv1⟩ : ∃ v, v = rest.getD 1 0 * 256 + rest.getD 2 0 := ⟨_, rfl⟩
  rw [← hv1] at hc1 ⊢
  obtain ⟨v2, hv2⟩ : ∃ v, v = decide (rest.getD 3 0 = 1) := ⟨_, rfl⟩
  rw [← hv2] at hc2 ⊢
  have HC0 := Lib.hid hc0; have HC1 := Lib.hid hc1; have HC2 := Lib.hid hc2; have HC3 := Lib.hid hc3; have HC4 := Lib.hid hc4
  have S0 := Lib.hid (EntSt.start h)
  clear hc0 hc1 hc2 hc3 hc4 h hby
  clear hn4 hn0 hn hse
  clear hv0 hv1 hv2
  go_enter Try.func58, Try.ntmps58
  go_wp2_with fail
  generalize (w.alloc (.cells #[.int .i64 0, .string { data := #[] }, .int .i64 0, .bool false] 59)).alloc (.cells #[.int .i64 0, .string { data := #[] }, .int .i64 0, .bool false] 59) = W0 at S0 ⊢
  refine (HC0.out _ S0.out.rd).mono ?_
  rintro e X0 ⟨rfl, r0, g0⟩
  have T0 := Lib.hid (S0.out.call g0 r0); clear r0 g0 S0
  obtain ⟨c0, c1, c2, c3⟩ := T0.out.box.in_
  have f0 := T0.out.box.f 0; have f1 := T0.out.box.f 1; have f2 := T0.out.box.f 2; have f3 := T0.out.box.f 3
  have U0 := Lib.hid (T0.out.put (j := 0) (v := .int .i64 v0) (NdAt.set0 (d := 0) (s := { data := #[] }) (f := 0) (p := false) T0.out.box v0))
  go_wp2_with fail
  clear c0 c1 c2 c3 f0 f1 f2 f3
  refine (HC1.out _ U0.out.rd).mono ?_
  rintro e X1 ⟨rfl, r1, g1⟩
  have T1 := Lib.hid (U0.out.call g1 r1); clear r1 g1 U0
  obtain ⟨c0, c1, c2, c3⟩ := T1.out.box.in_
  have f0 := T1.out.box.f 0; have f1 := T1.out.box.f 1; have f2 := T1.out.box.f 2; have f3 := T1.out.box.f 3
  have U1 := Lib.hid (T1.out.put (j := 2) (v := .int .i64 v1) (NdAt.set2 (d := v0) (s := { data := #[] }) (f := 0) (p := false) T1.out.box v1))
  go_wp2_with fail
  clear c0 c1 c2 c3 f0 f1 f2 f3
  refine (HC2.out _ U1.out.rd).mono ?_
  rintro e X2 ⟨rfl, r2, g2⟩
  have T2 := Lib.hid (U1.out.call g2 r2); clear r2 g2 U1
  obtain ⟨c0, c1, c2, c3⟩ := T2.out.box.in_
  have f0 := T2.out.box.f 0; have f1 := T2.out.box.f 1; have f2 := T2.out.box.f 2; have f3 := T2.out.box.f 3
  have U2 := Lib.hid (T2.out.put (j := 3) (v := .bool v2) (NdAt.set3 (d := v0) (s := { data := #[] }) (f := v1) (p := false) T2.out.box v2))
  go_wp2_with fail
  clear c0 c1 c2 c3 f0 f1 f2 f3
  refine (HC3.out _ U2.out.rd).mono ?_
  rintro e X3 ⟨rfl, r3, g3⟩
  have T3 := Lib.hid (U2.out.call g3 r3); clear r3 g3 U2
  go_wp2_with fail
  refine (HC4.out _ T3.out.rd).mono ?_
  rintro e X4 ⟨rfl, r4, g4⟩
  have T4 := Lib.hid (T3.out.call g4 r4); clear r4 g4 T3
  obtain ⟨c0, c1, c2, c3⟩ := T4.out.box.in_
  have f0 := T4.out.box.f 0; have f1 := T4.out.box.f 1; have f2 := T4.out.box.f 2; have f3 := T4.out.box.f 3
  have U4 := Lib.hid (T4.out.put (j := 1) (v := .string s) (NdAt.set1 (d := v0) (s := { data := #[] }) (f := v1) (p := v2) T4.out.box s))
  obtain ⟨d0, d1, d2, d3⟩ := U4.out.box.in_
  have k0 := U4.out.res.f 0; have k1 := U4.out.res.f 1; have k2 := U4.out.res.f 2; have k3 := U4.out.res.f 3
  obtain ⟨e0, e1, e2, e3⟩ := U4.out.res.in_
  go_wp2_with fail
  clear d0 d1 d2 d3 k0 k1 k2 k3 e0 e1 e2 e3
  have SF := U4.out.res.put ⟨v0, s, v1, v2⟩
  have hb := below_nd (w := X4.setCell ⟨w.heap.size + 1, 1, none⟩ (.string s)) (off := 0) (Nat.le_refl w.heap.size) ⟨v0, s, v1, v2⟩
  have RD := Lib.hid (U4.out.rd.below hb U4.out.lt)
  have GG := Lib.hid (grown_low U4.out.g hb)
  change bodyPost _ _ _ _ _ (setNd (X4.setCell ⟨w.heap.size + 1, 1, none⟩ (.string s)) w.heap.size 0 ⟨v0, s, v1, v2⟩)
  clear hb
  generalize setNd (X4.setCell ⟨w.heap.size + 1, 1, none⟩ (.string s)) w.heap.size 0 ⟨v0, s, v1, v2⟩ = wz at SF RD GG ⊢
  obtain ⟨e0, e1, e2, e3⟩ := SF.in_
  exact bodyPost_ret (v := .agg #[.int .i64 v0, .string s, .int .i64 v1, .bool v2]) (by simp [results, Try.results58, go_sem, e0, e1, e2, e3]) rfl ⟨rfl, RD.out, GG.out⟩
set_option maxHeartbeats 1000000 in
set_option maxRecDepth 100000 in
theorem entry_bad0 (p : Nat) (rest : List Int) (w : World) (h : RdrAt w p rest) (hl : rest.length < 1) :
    Calls Try.prog 58 #[.pointer (some ⟨p, 0, none⟩)] w (Bad w p) := by
  have hby := h.bytes
  have hc0 := fun W (h : RdrAt W p rest) => number_bad p 1 rest W h (by omega)
  have HC0 := Lib.hid hc0
  have S0 := Lib.hid (EntSt.start h)
  clear hc0 h hby
  go_enter Try.func58, Try.ntmps58
  go_wp2_with fail
  generalize (w.alloc (.cells #[.int .i64 0, .string { data := #[] }, .int .i64 0, .bool false] 59)).alloc (.cells #[.int .i64 0, .string { data := #[] }, .int .i64 0, .bool false] 59) = W0 at S0 ⊢
  refine (HC0.out _ S0.out.rd).mono ?_
  rintro e W1 ⟨⟨u, v, rfl⟩, g1⟩
  go_wp2_with fail
  exact ⟨rfl, S0.out.bad ⟨⟨_, _, rfl⟩, g1⟩⟩
set_option maxHeartbeats 1000000 in
set_option maxRecDepth 100000 in
theorem entry_bad1 (p : Nat) (rest : List Int) (w : World) (h : RdrAt w p rest) (hl : 1 ≤ rest.length) (hl2 : rest.length < 3) :
    Calls Try.prog 58 #[.pointer (some ⟨p, 0, none⟩)] w (Bad w p) := by
  have hby := h.bytes
  have hc0 := fun W (h : RdrAt W p rest) => number_ok p 1 rest W h (by omega) (by omega)
  rw [byteNum_one (by omega)] at hc0
  have hc1 := fun W (h : RdrAt W p (rest.drop 1)) => number_bad p 2 (rest.drop 1) W h (by rw [List.length_drop]; omega)
  obtain ⟨v0, hv0⟩ : ∃ v, v = rest.getD 0 0 := ⟨_, rfl⟩
  rw [← hv0] at hc0
  have HC0 := Lib.hid hc0; have HC1 := Lib.hid hc1
  have S0 := Lib.hid (EntSt.start h)
  clear hc0 hc1 h hby
  clear hv0
  go_enter Try.func58, Try.ntmps58
  go_wp2_with fail
  generalize (w.alloc (.cells #[.int .i64 0, .string { data := #[] }, .int .i64 0, .bool false] 59)).alloc (.cells #[.int .i64 0, .string { data := #[] }, .int .i64 0, .bool false] 59) = W0 at S0 ⊢
  refine (HC0.out _ S0.out.rd).mono ?_
  rintro e X0 ⟨rfl, r0, g0⟩
  have T0 := Lib.hid (S0.out.call g0 r0); clear r0 g0 S0
  obtain ⟨c0, c1, c2, c3⟩ := T0.out.box.in_
  have f0 := T0.out.box.f 0; have f1 := T0.out.box.f 1; have f2 := T0.out.box.f 2; have f3 := T0.out.box.f 3
  have U0 := Lib.hid (T0.out.put (j := 0) (v := .int .i64 v0) (NdAt.set0 (d := 0) (s := { data := #[] }) (f := 0) (p := false) T0.out.box v0))
  go_wp2_with fail
  clear c0 c1 c2 c3 f0 f1 f2 f3
  refine (HC1.out _ U0.out.rd).mono ?_
  rintro e X1 ⟨⟨u, v, rfl⟩, g1⟩
  go_wp2_with fail
  exact ⟨rfl, U0.out.bad ⟨⟨_, _, rfl⟩, g1⟩⟩
set_option maxHeartbeats 1000000 in
set_option maxRecDepth 100000 in
theorem entry_bad2 (p : Nat) (rest : List Int) (w : World) (h : RdrAt w p rest) (hl : rest.length = 3) :
    Calls Try.prog 58 #[.pointer (some ⟨p, 0, none⟩)] w (Bad w p) := by
  have hby := h.bytes
  have hc0 := fun W (h : RdrAt W p rest) => number_ok p 1 rest W h (by omega) (by omega)
  rw [byteNum_one (by omega)] at hc0
  have hc1 := fun W (h : RdrAt W p (rest.drop 1)) => number_ok p 2 (rest.drop 1) W h (by rw [List.length_drop]; omega) (by omega)
  rw [byteNum_two (by rw [List.length_drop]; omega), drop_getD, drop_getD1, List.drop_drop] at hc1
  have hc2 := fun W (h : RdrAt W p (rest.drop 3)) => flag_short p (rest.drop 3) W h (by rw [List.length_drop]; omega)
  obtain ⟨v0, hv0⟩ : ∃ v, v = rest.getD 0 0 := ⟨_, rfl⟩
  rw [← hv0] at hc0
  obtain ⟨v1, hv1⟩ : ∃ v, v = rest.getD 1 0 * 256 + rest.getD 2 0 := ⟨_, rfl⟩
  rw [← hv1] at hc1
  have HC0 := Lib.hid hc0; have HC1 := Lib.hid hc1; have HC2 := Lib.hid hc2
  have S0 := Lib.hid (EntSt.start h)
  clear hc0 hc1 hc2 h hby
  clear hv0 hv1
  go_enter Try.func58, Try.ntmps58
  go_wp2_with fail
  generalize (w.alloc (.cells #[.int .i64 0, .string { data := #[] }, .int .i64 0, .bool false] 59)).alloc (.cells #[.int .i64 0, .string { data := #[] }, .int .i64 0, .bool false] 59) = W0 at S0 ⊢
  refine (HC0.out _ S0.out.rd).mono ?_
  rintro e X0 ⟨rfl, r0, g0⟩
  have T0 := Lib.hid (S0.out.call g0 r0); clear r0 g0 S0
  obtain ⟨c0, c1, c2, c3⟩ := T0.out.box.in_
  have f0 := T0.out.box.f 0; have f1 := T0.out.box.f 1; have f2 := T0.out.box.f 2; have f3 := T0.out.box.f 3
  have U0 := Lib.hid (T0.out.put (j := 0) (v := .int .i64 v0) (NdAt.set0 (d := 0) (s := { data := #[] }) (f := 0) (p := false) T0.out.box v0))
  go_wp2_with fail
  clear c0 c1 c2 c3 f0 f1 f2 f3
  refine (HC1.out _ U0.out.rd).mono ?_
  rintro e X1 ⟨rfl, r1, g1⟩
  have T1 := Lib.hid (U0.out.call g1 r1); clear r1 g1 U0
  obtain ⟨c0, c1, c2, c3⟩ := T1.out.box.in_
  have f0 := T1.out.box.f 0; have f1 := T1.out.box.f 1; have f2 := T1.out.box.f 2; have f3 := T1.out.box.f 3
  have U1 := Lib.hid (T1.out.put (j := 2) (v := .int .i64 v1) (NdAt.set2 (d := v0) (s := { data := #[] }) (f := 0) (p := false) T1.out.box v1))
  go_wp2_with fail
  clear c0 c1 c2 c3 f0 f1 f2 f3
  refine (HC2.out _ U1.out.rd).mono ?_
  rintro e X2 ⟨⟨u, v, rfl⟩, g1⟩
  go_wp2_with fail
  exact ⟨rfl, U1.out.bad ⟨⟨_, _, rfl⟩, g1⟩⟩
set_option maxHeartbeats 1000000 in
set_option maxRecDepth 100000 in
theorem entry_bad3 (p : Nat) (rest : List Int) (w : World) (h : RdrAt w p rest) (hl : 4 ≤ rest.length) (hfl : ¬ (rest.getD 3 0 = 0 ∨ rest.getD 3 0 = 1)) :
    Calls Try.prog 58 #[.pointer (some ⟨p, 0, none⟩)] w (Bad w p) := by
  have hby := h.bytes
  have hc0 := fun W (h : RdrAt W p rest) => number_ok p 1 rest W h (by omega) (by omega)
  rw [byteNum_one (by omega)] at hc0
  have hc1 := fun W (h : RdrAt W p (rest.drop 1)) => number_ok p 2 (rest.drop 1) W h (by rw [List.length_drop]; omega) (by omega)
  rw [byteNum_two (by rw [List.length_drop]; omega), drop_getD, drop_getD1, List.drop_drop] at hc1
  have hc2 := fun W (h : RdrAt W p (rest.drop 3)) => flag_bad p (rest.drop 3) W h (by rw [List.length_drop]; omega) (by rw [drop_getD]; exact hfl)
  obtain ⟨v0, hv0⟩ : ∃ v, v = rest.getD 0 0 := ⟨_, rfl⟩
  rw [← hv0] at hc0
  obtain ⟨v1, hv1⟩ : ∃ v, v = rest.getD 1 0 * 256 + rest.getD 2 0 := ⟨_, rfl⟩
  rw [← hv1] at hc1
  have HC0 := Lib.hid hc0; have HC1 := Lib.hid hc1; have HC2 := Lib.hid hc2
  have S0 := Lib.hid (EntSt.start h)
  clear hc0 hc1 hc2 h hby
  clear hv0 hv1
  go_enter Try.func58, Try.ntmps58
  go_wp2_with fail
  generalize (w.alloc (.cells #[.int .i64 0, .string { data := #[] }, .int .i64 0, .bool false] 59)).alloc (.cells #[.int .i64 0, .string { data := #[] }, .int .i64 0, .bool false] 59) = W0 at S0 ⊢
  refine (HC0.out _ S0.out.rd).mono ?_
  rintro e X0 ⟨rfl, r0, g0⟩
  have T0 := Lib.hid (S0.out.call g0 r0); clear r0 g0 S0
  obtain ⟨c0, c1, c2, c3⟩ := T0.out.box.in_
  have f0 := T0.out.box.f 0; have f1 := T0.out.box.f 1; have f2 := T0.out.box.f 2; have f3 := T0.out.box.f 3
  have U0 := Lib.hid (T0.out.put (j := 0) (v := .int .i64 v0) (NdAt.set0 (d := 0) (s := { data := #[] }) (f := 0) (p := false) T0.out.box v0))
  go_wp2_with fail
  clear c0 c1 c2 c3 f0 f1 f2 f3
  refine (HC1.out _ U0.out.rd).mono ?_
  rintro e X1 ⟨rfl, r1, g1⟩
  have T1 := Lib.hid (U0.out.call g1 r1); clear r1 g1 U0
  obtain ⟨c0, c1, c2, c3⟩ := T1.out.box.in_
  have f0 := T1.out.box.f 0; have f1 := T1.out.box.f 1; have f2 := T1.out.box.f 2; have f3 := T1.out.box.f 3
  have U1 := Lib.hid (T1.out.put (j := 2) (v := .int .i64 v1) (NdAt.set2 (d := v0) (s := { data := #[] }) (f := 0) (p := false) T1.out.box v1))
  go_wp2_with fail
  clear c0 c1 c2 c3 f0 f1 f2 f3
  refine (HC2.out _ U1.out.rd).mono ?_
  rintro e X2 ⟨⟨u, v, rfl⟩, g1⟩
  go_wp2_with fail
  exact ⟨rfl, U1.out.bad ⟨⟨_, _, rfl⟩, g1⟩⟩
set_option maxHeartbeats 1000000 in
set_option maxRecDepth 100000 in
theorem entry_bad4 (p : Nat) (rest : List Int) (w : World) (h : RdrAt w p rest) (hl : rest.length = 4) (hfl : rest.getD 3 0 = 0 ∨ rest.getD 3 0 = 1) :
    Calls Try.prog 58 #[.pointer (some ⟨p, 0, none⟩)] w (Bad w p) := by
  have hby := h.bytes
  have hc0 := fun W (h : RdrAt W p rest) => number_ok p 1 rest W h (by omega) (by omega)
  rw [byteNum_one (by omega)] at hc0
  have hc1 := fun W (h : RdrAt W p (rest.drop 1)) => number_ok p 2 (rest.drop 1) W h (by rw [List.length_drop]; omega) (by omega)
  rw [byteNum_two (by rw [List.length_drop]; omega), drop_getD, drop_getD1, List.drop_drop] at hc1
  have hc2 := fun W (h : RdrAt W p (rest.drop 3)) => flag_ok p (rest.drop 3) W h (by rw [List.length_drop]; omega) (by rw [drop_getD]; exact hfl)
  rw [drop_getD, List.drop_drop] at hc2
  have hc3 := fun W (h : RdrAt W p (rest.drop 4)) => number_bad p 1 (rest.drop 4) W h (by rw [List.length_drop]; omega)
  obtain ⟨v0, hv0⟩ : ∃ v, v = rest.getD 0 0 := ⟨_, rfl⟩
  rw [← hv0] at hc0
  obtain ⟨v1, hv1⟩ : ∃ v, v = rest.getD 1 0 * 256 + rest.getD 2 0 := ⟨_, rfl⟩
  rw [← hv1] at hc1
  obtain ⟨v2, hv2⟩ : ∃ v, v = decide (rest.getD 3 0 = 1) := ⟨_, rfl⟩
  rw [← hv2] at hc2
  have HC0 := Lib.hid hc0; have HC1 := Lib.hid hc1; have HC2 := Lib.hid hc2; have HC3 := Lib.hid hc3
  have S0 := Lib.hid (EntSt.start h)
  clear hc0 hc1 hc2 hc3 h hby
  clear hv0 hv1 hv2
  go_enter Try.func58, Try.ntmps58
  go_wp2_with fail
  generalize (w.alloc (.cells #[.int .i64 0, .string { data := #[] }, .int .i64 0, .bool false] 59)).alloc (.cells #[.int .i64 0, .string { data := #[] }, .int .i64 0, .bool false] 59) = W0 at S0 ⊢
  refine (HC0.out _ S0.out.rd).mono ?_
  rintro e X0 ⟨rfl, r0, g0⟩
  have T0 := Lib.hid (S0.out.call g0 r0); clear r0 g0 S0
  obtain ⟨c0, c1, c2, c3⟩ := T0.out.box.in_
  have f0 := T0.out.box.f 0; have f1 := T0.out.box.f 1; have f2 := T0.out.box.f 2; have f3 := T0.out.box.f 3
  have U0 := Lib.hid (T0.out.put (j := 0) (v := .int .i64 v0) (NdAt.set0 (d := 0) (s := { data := #[] }) (f := 0) (p := false) T0.out.box v0))
  go_wp2_with fail
  clear c0 c1 c2 c3 f0 f1 f2 f3
  refine (HC1.out _ U0.out.rd).mono ?_
  rintro e X1 ⟨rfl, r1, g1⟩
  have T1 := Lib.hid (U0.out.call g1 r1); clear r1 g1 U0
  obtain ⟨c0, c1, c2, c3⟩ := T1.out.box.in_
  have f0 := T1.out.box.f 0; have f1 := T1.out.box.f 1; have f2 := T1.out.box.f 2; have f3 := T1.out.box.f 3
  have U1 := Lib.hid (T1.out.put (j := 2) (v := .int .i64 v1) (NdAt.set2 (d := v0) (s := { data := #[] }) (f := 0) (p := false) T1.out.box v1))
  go_wp2_with fail
  clear c0 c1 c2 c3 f0 f1 f2 f3
  refine (HC2.out _ U1.out.rd).mono ?_
  rintro e X2 ⟨rfl, r2, g2⟩
  have T2 := Lib.hid (U1.out.call g2 r2); clear r2 g2 U1
  obtain ⟨c0, c1, c2, c3⟩ := T2.out.box.in_
  have f0 := T2.out.box.f 0; have f1 := T2.out.box.f 1; have f2 := T2.out.box.f 2; have f3 := T2.out.box.f 3
  have U2 := Lib.hid (T2.out.put (j := 3) (v := .bool v2) (NdAt.set3 (d := v0) (s := { data := #[] }) (f := v1) (p := false) T2.out.box v2))
  go_wp2_with fail
  clear c0 c1 c2 c3 f0 f1 f2 f3
  refine (HC3.out _ U2.out.rd).mono ?_
  rintro e X3 ⟨⟨u, v, rfl⟩, g1⟩
  go_wp2_with fail
  exact ⟨rfl, U2.out.bad ⟨⟨_, _, rfl⟩, g1⟩⟩
set_option maxHeartbeats 1000000 in
set_option maxRecDepth 100000 in
theorem entry_bad5 (p : Nat) (rest : List Int) (w : World) (h : RdrAt w p rest) (hl : 5 ≤ rest.length) (hfl : rest.getD 3 0 = 0 ∨ rest.getD 3 0 = 1) (hln : rest.length < 5 + (rest.getD 4 0).toNat) :
    Calls Try.prog 58 #[.pointer (some ⟨p, 0, none⟩)] w (Bad w p) := by
  have hby := h.bytes
  have hc0 := fun W (h : RdrAt W p rest) => number_ok p 1 rest W h (by omega) (by omega)
  rw [byteNum_one (by omega)] at hc0
  have hc1 := fun W (h : RdrAt W p (rest.drop 1)) => number_ok p 2 (rest.drop 1) W h (by rw [List.length_drop]; omega) (by omega)
  rw [byteNum_two (by rw [List.length_drop]; omega), drop_getD, drop_getD1, List.drop_drop] at hc1
  have hc2 := fun W (h : RdrAt W p (rest.drop 3)) => flag_ok p (rest.drop 3) W h (by rw [List.length_drop]; omega) (by rw [drop_getD]; exact hfl)
  rw [drop_getD, List.drop_drop] at hc2
  have hc3 := fun W (h : RdrAt W p (rest.drop 4)) => number_ok p 1 (rest.drop 4) W h (by rw [List.length_drop]; omega) (by omega)
  rw [byteNum_one (by rw [List.length_drop]; omega), drop_getD, List.drop_drop] at hc3
  obtain ⟨n, hn⟩ : ∃ n : Nat, n = (rest.getD 4 0).toNat := ⟨_, rfl⟩
  have hn4 := bytes_at hby 4
  have hn0 : rest.getD 4 0 = (n : Int) := by omega
  have hn1 : n ≤ 255 := by omega
  rw [hn0] at hc3
  have hc4 := fun W (h : RdrAt W p (rest.drop 5)) => text_bad p n (rest.drop 5) W h (by rw [List.length_drop, hn]; omega)
  obtain ⟨v0, hv0⟩ : ∃ v, v = rest.getD 0 0 := ⟨_, rfl⟩
  rw [← hv0] at hc0
  obtain ⟨v1, hv1⟩ : ∃ v, v = rest.getD 1 0 * 256 + rest.getD 2 0 := ⟨_, rfl⟩
  rw [← hv1] at hc1
  obtain ⟨v2, hv2⟩ : ∃ v, v = decide (rest.getD 3 0 = 1) := ⟨_, rfl⟩
  rw [← hv2] at hc2
  have HC0 := Lib.hid hc0; have HC1 := Lib.hid hc1; have HC2 := Lib.hid hc2; have HC3 := Lib.hid hc3; have HC4 := Lib.hid hc4
  have S0 := Lib.hid (EntSt.start h)
  clear hc0 hc1 hc2 hc3 hc4 h hby
  clear hn4 hn0 hn
  clear hv0 hv1 hv2
  go_enter Try.func58, Try.ntmps58
  go_wp2_with fail
  generalize (w.alloc (.cells #[.int .i64 0, .string { data := #[] }, .int .i64 0, .bool false] 59)).alloc (.cells #[.int .i64 0, .string { data := #[] }, .int .i64 0, .bool false] 59) = W0 at S0 ⊢
  refine (HC0.out _ S0.out.rd).mono ?_
  rintro e X0 ⟨rfl, r0, g0⟩
  have T0 := Lib.hid (S0.out.call g0 r0); clear r0 g0 S0
  obtain ⟨c0, c1, c2, c3⟩ := T0.out.box.in_
  have f0 := T0.out.box.f 0; have f1 := T0.out.box.f 1; have f2 := T0.out.box.f 2; have f3 := T0.out.box.f 3
  have U0 := Lib.hid (T0.out.put (j := 0) (v := .int .i64 v0) (NdAt.set0 (d := 0) (s := { data := #[] }) (f := 0) (p := false) T0.out.box v0))
  go_wp2_with fail
  clear c0 c1 c2 c3 f0 f1 f2 f3
  refine (HC1.out _ U0.out.rd).mono ?_
  rintro e X1 ⟨rfl, r1, g1⟩
  have T1 := Lib.hid (U0.out.call g1 r1); clear r1 g1 U0
  obtain ⟨c0, c1, c2, c3⟩ := T1.out.box.in_
  have f0 := T1.out.box.f 0; have f1 := T1.out.box.f 1; have f2 := T1.out.box.f 2; have f3 := T1.out.box.f 3
  have U1 := Lib.hid (T1.out.put (j := 2) (v := .int .i64 v1) (NdAt.set2 (d := v0) (s := { data := #[] }) (f := 0) (p := false) T1.out.box v1))
  go_wp2_with fail
  clear c0 c1 c2 c3 f0 f1 f2 f3
  refine (HC2.out _ U1.out.rd).mono ?_
  rintro e X2 ⟨rfl, r2, g2⟩
  have T2 := Lib.hid (U1.out.call g2 r2); clear r2 g2 U1
  obtain ⟨c0, c1, c2, c3⟩ := T2.out.box.in_
  have f0 := T2.out.box.f 0; have f1 := T2.out.box.f 1; have f2 := T2.out.box.f 2; have f3 := T2.out.box.f 3
  have U2 := Lib.hid (T2.out.put (j := 3) (v := .bool v2) (NdAt.set3 (d := v0) (s := { data := #[] }) (f := v1) (p := false) T2.out.box v2))
  go_wp2_with fail
  clear c0 c1 c2 c3 f0 f1 f2 f3
  refine (HC3.out _ U2.out.rd).mono ?_
  rintro e X3 ⟨rfl, r3, g3⟩
  have T3 := Lib.hid (U2.out.call g3 r3); clear r3 g3 U2
  go_wp2_with fail
  refine (HC4.out _ T3.out.rd).mono ?_
  rintro e X4 ⟨⟨u, v, rfl⟩, g1⟩
  go_wp2_with fail
  exact ⟨rfl, T3.out.bad ⟨⟨_, _, rfl⟩, g1⟩⟩
theorem entry_bad (p : Nat) (rest : List Int) (w : World) (h : RdrAt w p rest) (hok : okEntry rest = false) :
    Calls Try.prog 58 #[.pointer (some ⟨p, 0, none⟩)] w (Bad w p) := by
  have hno : ¬ (5 ≤ rest.length ∧ (rest.getD 3 0 = 0 ∨ rest.getD 3 0 = 1) ∧ 5 + (rest.getD 4 0).toNat ≤ rest.length) := fun hc => by rw [okEntry_iff.2 hc] at hok; cases hok
  by_cases h1 : rest.length < 1
  · exact entry_bad0 p rest w h h1
  by_cases h3 : rest.length < 3
  · exact entry_bad1 p rest w h (by omega) h3
  by_cases h4 : rest.length = 3
  · exact entry_bad2 p rest w h h4
  by_cases hf : rest.getD 3 0 = 0 ∨ rest.getD 3 0 = 1
  · by_cases h5 : rest.length = 4
    · exact entry_bad4 p rest w h h5 hf
    · exact entry_bad5 p rest w h (by omega) hf (by
        by_cases hln : 5 + (rest.getD 4 0).toNat ≤ rest.length
        · exact absurd ⟨by omega, hf, hln⟩ hno
        · omega)
  · exact entry_bad3 p rest w h (by omega) hf
end Go.Proofs.Ytpedlofckbplmaa
