/-
  Chapter 12: the program's reader: an entry.
-/
import Derived.Test.YtggnoeeaoligdaaSO
import Derived.Test.YtggnoeeaoligdaaSL
namespace Go.Proofs.Ytggnoeeaoligdaa
open Go.RowKit

section
variable {w W W' : World} {T b p : Nat} {rest rest' : List Int} {x : Sl}
theorem SlBk.set0 (h : SlBk T w b x) (y : Int) : SlBk T (w.setCell ⟨b, 0, none⟩ (.int .i64 y)) b ⟨y, x.round, x.slot, ⟨x.desc.node, x.desc.kind, x.desc.size, x.desc.dur, x.desc.chg⟩⟩ := by
  have := heap_setCell_same w b 0 _ _ (.int .i64 y) h
  simpa [SlBk] using this
theorem SlBk.set1 (h : SlBk T w b x) (y : Int) : SlBk T (w.setCell ⟨b, 1, none⟩ (.int .i64 y)) b ⟨x.mode, y, x.slot, ⟨x.desc.node, x.desc.kind, x.desc.size, x.desc.dur, x.desc.chg⟩⟩ := by
  have := heap_setCell_same w b 1 _ _ (.int .i64 y) h
  simpa [SlBk] using this
theorem SlBk.set2 (h : SlBk T w b x) (y : Int) : SlBk T (w.setCell ⟨b, 2, none⟩ (.int .i64 y)) b ⟨x.mode, x.round, y, ⟨x.desc.node, x.desc.kind, x.desc.size, x.desc.dur, x.desc.chg⟩⟩ := by
  have := heap_setCell_same w b 2 _ _ (.int .i64 y) h
  simpa [SlBk] using this
theorem SlBk.set3 (h : SlBk T w b x) (y : Int) : SlBk T (w.setCell ⟨b, 3, none⟩ (.int .i64 y)) b ⟨x.mode, x.round, x.slot, ⟨y, x.desc.kind, x.desc.size, x.desc.dur, x.desc.chg⟩⟩ := by
  have := heap_setCell_same w b 3 _ _ (.int .i64 y) h
  simpa [SlBk] using this
theorem SlBk.set4 (h : SlBk T w b x) (y : Int) : SlBk T (w.setCell ⟨b, 4, none⟩ (.int .i64 y)) b ⟨x.mode, x.round, x.slot, ⟨x.desc.node, y, x.desc.size, x.desc.dur, x.desc.chg⟩⟩ := by
  have := heap_setCell_same w b 4 _ _ (.int .i64 y) h
  simpa [SlBk] using this
theorem SlBk.set5 (h : SlBk T w b x) (y : Int) : SlBk T (w.setCell ⟨b, 5, none⟩ (.int .i64 y)) b ⟨x.mode, x.round, x.slot, ⟨x.desc.node, x.desc.kind, y, x.desc.dur, x.desc.chg⟩⟩ := by
  have := heap_setCell_same w b 5 _ _ (.int .i64 y) h
  simpa [SlBk] using this
theorem SlBk.set6 (h : SlBk T w b x) (y : Int) : SlBk T (w.setCell ⟨b, 6, none⟩ (.int .i64 y)) b ⟨x.mode, x.round, x.slot, ⟨x.desc.node, x.desc.kind, x.desc.size, y, x.desc.chg⟩⟩ := by
  have := heap_setCell_same w b 6 _ _ (.int .i64 y) h
  simpa [SlBk] using this
theorem SlBk.set7 (h : SlBk T w b x) (y : Bool) : SlBk T (w.setCell ⟨b, 7, none⟩ (.bool y)) b ⟨x.mode, x.round, x.slot, ⟨x.desc.node, x.desc.kind, x.desc.size, x.desc.dur, y⟩⟩ := by
  have := heap_setCell_same w b 7 _ _ (.bool y) h
  simpa [SlBk] using this
def setSlD (w : World) (b : Nat) (d : Ds) : World := ((((w.setCell ⟨b, 3, none⟩ (.int .i64 d.node)).setCell ⟨b, 4, none⟩ (.int .i64 d.kind)).setCell ⟨b, 5, none⟩ (.int .i64 d.size)).setCell ⟨b, 6, none⟩ (.int .i64 d.dur)).setCell ⟨b, 7, none⟩ (.bool d.chg)
theorem SlBk.setD (h : SlBk T w b x) (d : Ds) : SlBk T (setSlD w b d) b ⟨x.mode, x.round, x.slot, d⟩ := ((((h.set3 d.node).set4 d.kind).set5 d.size).set6 d.dur).set7 d.chg
theorem SlBk.put (h : SlBk T w b x) (y : Sl) : SlBk T (setSl w b 0 y) b y := by
  have := ((((((((h.set0 y.mode).set1 y.round).set2 y.slot).set3 y.desc.node).set4 y.desc.kind).set5 y.desc.size).set6 y.desc.dur).set7 y.desc.chg)
  exact this
theorem below_slD {B : Nat} (hb : B ≤ b) (d : Ds) : Below B w (setSlD w b d) := (((((Below.refl _ _).setCell hb _).setCell hb _).setCell hb _).setCell hb _).setCell hb _
/-- The state within the reader's slot: the reader, the result's cell, the entry. -/
structure SltSt (w W : World) (p : Nat) (rest : List Int) (x : Sl) : Prop where
  r : RdrAt W p rest
  a1 : SlBk 38 W w.heap.size Sl.zero
  a2 : SlBk 38 W (w.heap.size + 1) x
  g : w.grownBy W (some p)
  lt : p < w.heap.size
theorem SltSt.start (h : RdrAt w p rest) : SltSt w ((w.alloc (.cells #[.int .i64 0, .int .i64 0, .int .i64 0, .int .i64 0, .int .i64 0, .int .i64 0, .int .i64 0, .bool false] 38)).alloc (.cells #[.int .i64 0, .int .i64 0, .int .i64 0, .int .i64 0, .int .i64 0, .int .i64 0, .int .i64 0, .bool false] 38)) p rest Sl.zero := by
  have hb1 : Below w.heap.size w (w.alloc (.cells #[.int .i64 0, .int .i64 0, .int .i64 0, .int .i64 0, .int .i64 0, .int .i64 0, .int .i64 0, .bool false] 38)) := (Below.refl _ _).alloc (Nat.le_refl _) _
  have hb2 : Below (w.alloc (.cells #[.int .i64 0, .int .i64 0, .int .i64 0, .int .i64 0, .int .i64 0, .int .i64 0, .int .i64 0, .bool false] 38)).heap.size (w.alloc (.cells #[.int .i64 0, .int .i64 0, .int .i64 0, .int .i64 0, .int .i64 0, .int .i64 0, .int .i64 0, .bool false] 38)) ((w.alloc (.cells #[.int .i64 0, .int .i64 0, .int .i64 0, .int .i64 0, .int .i64 0, .int .i64 0, .int .i64 0, .bool false] 38)).alloc (.cells #[.int .i64 0, .int .i64 0, .int .i64 0, .int .i64 0, .int .i64 0, .int .i64 0, .int .i64 0, .bool false] 38)) := (Below.refl _ _).alloc (Nat.le_refl _) _
  have hb := below_two hb1 hb2
  refine ⟨h.below hb h.lt, ?_, ?_, grown_of_b hb _, h.lt⟩
  · exact (SlBk.new (x := Sl.zero) w).below hb2 (by simp)
  · have h0 := SlBk.new (x := Sl.zero) (T := 38) (w.alloc (.cells #[.int .i64 0, .int .i64 0, .int .i64 0, .int .i64 0, .int .i64 0, .int .i64 0, .int .i64 0, .bool false] 38))
    rw [World.size_alloc] at h0
    exact h0
theorem SltSt.size (h : SltSt w W p rest x) : w.heap.size + 2 ≤ W.heap.size := by have := h.a2.lt; omega
theorem SltSt.call (h : SltSt w W p rest x) (hr : RdrAt W' p rest') (hg : W.grownBy W' (some p)) : SltSt w W' p rest' x :=
  ⟨hr, h.a1.grown hg (by have := h.lt; intro e; cases e; omega), h.a2.grown hg (by have := h.lt; intro e; cases e; omega), grown_trans h.g hg, h.lt⟩
theorem SltSt.bad {e : Ending} (h : SltSt w W p rest x) (hb : Bad W p e W') : Bad w p e W' := ⟨hb.1, grown_trans h.g hb.2⟩
theorem SltSt.put {y : Sl} (h : SltSt w W p rest x) (hb : Below (w.heap.size + 1) W W') (hd : SlBk 38 W' (w.heap.size + 1) y) : SltSt w W' p rest y :=
  ⟨h.r.below hb (by have := h.lt; omega), h.a1.below hb (by omega), hd, grown_low h.g (hb.mono (by omega)), h.lt⟩
end
/-- What an entry's reading leaves. -/
def GotSl (w : World) (p : Nat) (o : Option (Sl × List Int)) (e : Ending) (w' : World) : Prop :=
  match o with
  | some (x, r) => e = .returned (slVal x) ∧ RdrAt w' p r ∧ w.grownBy w' (some p)
  | none => Bad w p e w'
theorem high4 (x : Int) : x / 16 = x / 2 ^ 4 := by rfl
theorem low4 {x : Int} (h : 0 ≤ x) (h2 : x ≤ 255) : bits .and .i64 x 15 = x % 16 := by
  obtain ⟨a, rfl⟩ : ∃ a : Nat, x = a := ⟨x.toNat, by omega⟩
  have := and_nat a 15 (by omega) (by omega)
  rw [show ((15 : Nat) : Int) = 15 from rfl] at this
  rw [this, show (15 : Nat) = 2 ^ 4 - 1 from rfl, Nat.and_two_pow_sub_one_eq_mod]
  omega
set_option maxHeartbeats 2000000 in
set_option maxRecDepth 100000 in
set_option linter.unusedSimpArgs false in
theorem slot_bad1 (p : Nat) (ys : List Int) (w : World) (h : RdrAt w p ys) (h1 : ys.length < 1) :
    Calls Try.prog 83 #[.pointer (some ⟨p, 0, none⟩)] w (Bad w p) := by
  have HS := Lib.hid (SltSt.start h)
  have hby := h.bytes
  clear h
  go_enter Try.func83, Try.ntmps83
  go_upto_region 2 with fail
  generalize (w.alloc (.cells #[.int .i64 0, .int .i64 0, .int .i64 0, .int .i64 0, .int .i64 0, .int .i64 0, .int .i64 0, .bool false] 38)).alloc (.cells #[.int .i64 0, .int .i64 0, .int .i64 0, .int .i64 0, .int .i64 0, .int .i64 0, .int .i64 0, .bool false] 38) = W0 at HS ⊢
  have HN := Lib.hid (number_bad p 1 ys _ HS.out.r h1)
  go_wp2_with fail
  refine HN.out.mono ?_
  rintro e w9 hbad
  have HBAD := HS.out.bad hbad
  obtain ⟨u, v, rfl⟩ := hbad.1
  clear HS HN hbad
  go_wp2_with fail
  exact ⟨rfl, HBAD⟩
set_option maxHeartbeats 2000000 in
set_option maxRecDepth 100000 in
set_option linter.unusedSimpArgs false in
theorem slot_bad2 (p : Nat) (ys : List Int) (w : World) (h : RdrAt w p ys) (h1 : ¬ ys.length < 1) (h2 : (ys.drop 1).length < 1) :
    Calls Try.prog 83 #[.pointer (some ⟨p, 0, none⟩)] w (Bad w p) := by
  have HS := Lib.hid (SltSt.start h)
  have hby := h.bytes
  clear h
  have hb0 := bytes_at_rt hby 0
  obtain ⟨v0, hv0⟩ : ∃ v, v = ys.getD 0 0 := ⟨_, rfl⟩
  rw [← hv0] at hb0
  have HV0 := Lib.hid hv0
  clear hv0
  have hlo := low4 hb0.1 hb0.2
  have hw1 : IntKind.i64.wrap (v0 / 16) = v0 / 16 := by rw [IntKind.wrap_i64]; omega
  have hnn : 0 ≤ v0 := hb0.1
  go_enter Try.func83, Try.ntmps83
  go_upto_region 2 with fail
  generalize (w.alloc (.cells #[.int .i64 0, .int .i64 0, .int .i64 0, .int .i64 0, .int .i64 0, .int .i64 0, .int .i64 0, .bool false] 38)).alloc (.cells #[.int .i64 0, .int .i64 0, .int .i64 0, .int .i64 0, .int .i64 0, .int .i64 0, .int .i64 0, .bool false] 38) = W0 at HS ⊢
  have HN := Lib.hid (number_ok p 1 ys _ HS.out.r (by omega) (by omega))
  rw [byteNum_one (by omega), ← HV0.out] at HN
  go_wp2_with fail
  refine HN.out.mono ?_
  rintro e w1 ⟨rfl, r1, g1⟩
  have hs1 := HS.out.call r1 g1
  clear HS HN r1 g1
  have f0 := hs1.a2.f 0; have f1 := hs1.a2.f 1
  obtain ⟨d0, d1, d2, d3, d4, d5, d6, d7⟩ := hs1.a2.all8
  have HS := Lib.hid (hs1.put (((Below.refl _ _).setCell (by exact Nat.le_refl _) _).setCell (by exact Nat.le_refl _) _) ((hs1.a2.set0 (v0 / 16)).set1 (v0 % 16)))
  clear hs1
  simp only [Sl.zero, Ds.zero] at d0 d1
  go_upto_region 4 with fail
  clear d0 d1 d2 d3 d4 d5 d6 d7 f0 f1
  generalize (w1.setCell ⟨w.heap.size + 1, 0, none⟩ (.int .i64 (v0 / 16))).setCell ⟨w.heap.size + 1, 1, none⟩ (.int .i64 (v0 % 16)) = W1 at HS ⊢
  have HN := Lib.hid (number_bad p 1 (ys.drop 1) _ HS.out.r h2)
  go_wp2_with fail
  refine HN.out.mono ?_
  rintro e w9 hbad
  have HBAD := HS.out.bad hbad
  obtain ⟨u, v, rfl⟩ := hbad.1
  clear HS HN hbad
  go_wp2_with fail
  exact ⟨rfl, HBAD⟩
set_option maxHeartbeats 2000000 in
set_option maxRecDepth 100000 in
set_option linter.unusedSimpArgs false in
theorem slot_bad3 (p : Nat) (ys : List Int) (w : World) (h : RdrAt w p ys) (h1 : ¬ ys.length < 1) (h2 : ¬ (ys.drop 1).length < 1) (h3 : ((ys.drop 1).drop 1).length < 5) :
    Calls Try.prog 83 #[.pointer (some ⟨p, 0, none⟩)] w (Bad w p) := by
  have HS := Lib.hid (SltSt.start h)
  have hby := h.bytes
  clear h
  obtain ⟨v1, hv1⟩ : ∃ v, v = (ys.drop 1).getD 0 0 := ⟨_, rfl⟩
  have HV1 := Lib.hid hv1
  clear hv1
  have hb0 := bytes_at_rt hby 0
  obtain ⟨v0, hv0⟩ : ∃ v, v = ys.getD 0 0 := ⟨_, rfl⟩
  rw [← hv0] at hb0
  have HV0 := Lib.hid hv0
  clear hv0
  have hlo := low4 hb0.1 hb0.2
  have hw1 : IntKind.i64.wrap (v0 / 16) = v0 / 16 := by rw [IntKind.wrap_i64]; omega
  have hnn : 0 ≤ v0 := hb0.1
  go_enter Try.func83, Try.ntmps83
  go_upto_region 2 with fail
  generalize (w.alloc (.cells #[.int .i64 0, .int .i64 0, .int .i64 0, .int .i64 0, .int .i64 0, .int .i64 0, .int .i64 0, .bool false] 38)).alloc (.cells #[.int .i64 0, .int .i64 0, .int .i64 0, .int .i64 0, .int .i64 0, .int .i64 0, .int .i64 0, .bool false] 38) = W0 at HS ⊢
  have HN := Lib.hid (number_ok p 1 ys _ HS.out.r (by omega) (by omega))
  rw [byteNum_one (by omega), ← HV0.out] at HN
  go_wp2_with fail
  refine HN.out.mono ?_
  rintro e w1 ⟨rfl, r1, g1⟩
  have hs1 := HS.out.call r1 g1
  clear HS HN r1 g1
  have f0 := hs1.a2.f 0; have f1 := hs1.a2.f 1
  obtain ⟨d0, d1, d2, d3, d4, d5, d6, d7⟩ := hs1.a2.all8
  have HS := Lib.hid (hs1.put (((Below.refl _ _).setCell (by exact Nat.le_refl _) _).setCell (by exact Nat.le_refl _) _) ((hs1.a2.set0 (v0 / 16)).set1 (v0 % 16)))
  clear hs1
  simp only [Sl.zero, Ds.zero] at d0 d1
  go_upto_region 4 with fail
  clear d0 d1 d2 d3 d4 d5 d6 d7 f0 f1
  generalize (w1.setCell ⟨w.heap.size + 1, 0, none⟩ (.int .i64 (v0 / 16))).setCell ⟨w.heap.size + 1, 1, none⟩ (.int .i64 (v0 % 16)) = W1 at HS ⊢
  have HN := Lib.hid (number_ok p 1 (ys.drop 1) _ HS.out.r (by omega) (by omega))
  rw [byteNum_one (by omega), ← HV1.out] at HN
  go_wp2_with fail
  refine HN.out.mono ?_
  rintro e w2 ⟨rfl, r2, g2⟩
  have hs2 := HS.out.call r2 g2
  clear HS HN r2 g2
  have f2 := hs2.a2.f 2
  obtain ⟨d0, d1, d2, d3, d4, d5, d6, d7⟩ := hs2.a2.all8
  have HS := Lib.hid (hs2.put ((Below.refl _ _).setCell (by exact Nat.le_refl _) _) (hs2.a2.set2 v1))
  clear hs2
  simp only [Sl.zero, Ds.zero] at d2
  go_upto_region 5 with fail
  clear d0 d1 d2 d3 d4 d5 d6 d7 f2
  generalize w2.setCell ⟨w.heap.size + 1, 2, none⟩ (.int .i64 v1) = W2 at HS ⊢
  have HN := Lib.hid (desc_short p ((ys.drop 1).drop 1) _ HS.out.r h3)
  go_wp2_with fail
  refine HN.out.mono ?_
  rintro e w9 hbad
  have HBAD := HS.out.bad hbad
  obtain ⟨u, v, rfl⟩ := hbad.1
  clear HS HN hbad
  go_wp2_with fail
  exact ⟨rfl, HBAD⟩
set_option maxHeartbeats 2000000 in
set_option maxRecDepth 100000 in
set_option linter.unusedSimpArgs false in
theorem slot_bad4 (p : Nat) (ys : List Int) (w : World) (h : RdrAt w p ys) (h1 : ¬ ys.length < 1) (h2 : ¬ (ys.drop 1).length < 1) (h3 : ¬ ((ys.drop 1).drop 1).length < 5) (h4 : (descFrom (((ys.drop 1).drop 1).take 5)).2 ≠ 0) :
    Calls Try.prog 83 #[.pointer (some ⟨p, 0, none⟩)] w (Bad w p) := by
  have HS := Lib.hid (SltSt.start h)
  have hby := h.bytes
  clear h
  obtain ⟨v1, hv1⟩ : ∃ v, v = (ys.drop 1).getD 0 0 := ⟨_, rfl⟩
  have HV1 := Lib.hid hv1
  clear hv1
  have hb0 := bytes_at_rt hby 0
  obtain ⟨v0, hv0⟩ : ∃ v, v = ys.getD 0 0 := ⟨_, rfl⟩
  rw [← hv0] at hb0
  have HV0 := Lib.hid hv0
  clear hv0
  have hlo := low4 hb0.1 hb0.2
  have hw1 : IntKind.i64.wrap (v0 / 16) = v0 / 16 := by rw [IntKind.wrap_i64]; omega
  have hnn : 0 ≤ v0 := hb0.1
  go_enter Try.func83, Try.ntmps83
  go_upto_region 2 with fail
  generalize (w.alloc (.cells #[.int .i64 0, .int .i64 0, .int .i64 0, .int .i64 0, .int .i64 0, .int .i64 0, .int .i64 0, .bool false] 38)).alloc (.cells #[.int .i64 0, .int .i64 0, .int .i64 0, .int .i64 0, .int .i64 0, .int .i64 0, .int .i64 0, .bool false] 38) = W0 at HS ⊢
  have HN := Lib.hid (number_ok p 1 ys _ HS.out.r (by omega) (by omega))
  rw [byteNum_one (by omega), ← HV0.out] at HN
  go_wp2_with fail
  refine HN.out.mono ?_
  rintro e w1 ⟨rfl, r1, g1⟩
  have hs1 := HS.out.call r1 g1
  clear HS HN r1 g1
  have f0 := hs1.a2.f 0; have f1 := hs1.a2.f 1
  obtain ⟨d0, d1, d2, d3, d4, d5, d6, d7⟩ := hs1.a2.all8
  have HS := Lib.hid (hs1.put (((Below.refl _ _).setCell (by exact Nat.le_refl _) _).setCell (by exact Nat.le_refl _) _) ((hs1.a2.set0 (v0 / 16)).set1 (v0 % 16)))
  clear hs1
  simp only [Sl.zero, Ds.zero] at d0 d1
  go_upto_region 4 with fail
  clear d0 d1 d2 d3 d4 d5 d6 d7 f0 f1
  generalize (w1.setCell ⟨w.heap.size + 1, 0, none⟩ (.int .i64 (v0 / 16))).setCell ⟨w.heap.size + 1, 1, none⟩ (.int .i64 (v0 % 16)) = W1 at HS ⊢
  have HN := Lib.hid (number_ok p 1 (ys.drop 1) _ HS.out.r (by omega) (by omega))
  rw [byteNum_one (by omega), ← HV1.out] at HN
  go_wp2_with fail
  refine HN.out.mono ?_
  rintro e w2 ⟨rfl, r2, g2⟩
  have hs2 := HS.out.call r2 g2
  clear HS HN r2 g2
  have f2 := hs2.a2.f 2
  obtain ⟨d0, d1, d2, d3, d4, d5, d6, d7⟩ := hs2.a2.all8
  have HS := Lib.hid (hs2.put ((Below.refl _ _).setCell (by exact Nat.le_refl _) _) (hs2.a2.set2 v1))
  clear hs2
  simp only [Sl.zero, Ds.zero] at d2
  go_upto_region 5 with fail
  clear d0 d1 d2 d3 d4 d5 d6 d7 f2
  generalize w2.setCell ⟨w.heap.size + 1, 2, none⟩ (.int .i64 v1) = W2 at HS ⊢
  have HN := Lib.hid (desc_bad p ((ys.drop 1).drop 1) _ HS.out.r (by omega) h4)
  go_wp2_with fail
  refine HN.out.mono ?_
  rintro e w9 hbad
  have HBAD := HS.out.bad hbad
  obtain ⟨u, v, rfl⟩ := hbad.1
  clear HS HN hbad
  go_wp2_with fail
  exact ⟨rfl, HBAD⟩
set_option maxHeartbeats 2000000 in
set_option maxRecDepth 100000 in
set_option linter.unusedSimpArgs false in
theorem slot_ok (p : Nat) (ys : List Int) (w : World) (h : RdrAt w p ys) (h1 : ¬ ys.length < 1) (h2 : ¬ (ys.drop 1).length < 1) (h3 : ¬ ((ys.drop 1).drop 1).length < 5) (h4 : (descFrom (((ys.drop 1).drop 1).take 5)).2 = 0) :
    Calls Try.prog 83 #[.pointer (some ⟨p, 0, none⟩)] w (GotSl w p (some (⟨ys.getD 0 0 / 16, ys.getD 0 0 % 16, (ys.drop 1).getD 0 0, (descFrom (((ys.drop 1).drop 1).take 5)).1⟩, ((ys.drop 1).drop 1).drop 5))) := by
  have HS := Lib.hid (SltSt.start h)
  have hby := h.bytes
  clear h
  obtain ⟨v1, hv1⟩ : ∃ v, v = (ys.drop 1).getD 0 0 := ⟨_, rfl⟩
  have HV1 := Lib.hid hv1
  clear hv1
  have hb0 := bytes_at_rt hby 0
  obtain ⟨v0, hv0⟩ : ∃ v, v = ys.getD 0 0 := ⟨_, rfl⟩
  rw [← hv0] at hb0
  have HV0 := Lib.hid hv0
  clear hv0
  have hlo := low4 hb0.1 hb0.2
  have hw1 : IntKind.i64.wrap (v0 / 16) = v0 / 16 := by rw [IntKind.wrap_i64]; omega
  have hnn : 0 ≤ v0 := hb0.1
  rw [← HV0.out, ← HV1.out]
  obtain ⟨d, hd⟩ : ∃ d, d = (descFrom (((ys.drop 1).drop 1).take 5)).1 := ⟨_, rfl⟩
  obtain ⟨rs, hrs⟩ : ∃ rs, rs = ((ys.drop 1).drop 1).drop 5 := ⟨_, rfl⟩
  rw [← hd, ← hrs]
  have HDD := Lib.hid hd; have HRS := Lib.hid hrs
  clear hd hrs
  go_enter Try.func83, Try.ntmps83
  go_upto_region 2 with fail
  generalize (w.alloc (.cells #[.int .i64 0, .int .i64 0, .int .i64 0, .int .i64 0, .int .i64 0, .int .i64 0, .int .i64 0, .bool false] 38)).alloc (.cells #[.int .i64 0, .int .i64 0, .int .i64 0, .int .i64 0, .int .i64 0, .int .i64 0, .int .i64 0, .bool false] 38) = W0 at HS ⊢
  have HN := Lib.hid (number_ok p 1 ys _ HS.out.r (by omega) (by omega))
  rw [byteNum_one (by omega), ← HV0.out] at HN
  go_wp2_with fail
  refine HN.out.mono ?_
  rintro e w1 ⟨rfl, r1, g1⟩
  have hs1 := HS.out.call r1 g1
  clear HS HN r1 g1
  have f0 := hs1.a2.f 0; have f1 := hs1.a2.f 1
  obtain ⟨d0, d1, d2, d3, d4, d5, d6, d7⟩ := hs1.a2.all8
  have HS := Lib.hid (hs1.put (((Below.refl _ _).setCell (by exact Nat.le_refl _) _).setCell (by exact Nat.le_refl _) _) ((hs1.a2.set0 (v0 / 16)).set1 (v0 % 16)))
  clear hs1
  simp only [Sl.zero, Ds.zero] at d0 d1
  go_upto_region 4 with fail
  clear d0 d1 d2 d3 d4 d5 d6 d7 f0 f1
  generalize (w1.setCell ⟨w.heap.size + 1, 0, none⟩ (.int .i64 (v0 / 16))).setCell ⟨w.heap.size + 1, 1, none⟩ (.int .i64 (v0 % 16)) = W1 at HS ⊢
  have HN := Lib.hid (number_ok p 1 (ys.drop 1) _ HS.out.r (by omega) (by omega))
  rw [byteNum_one (by omega), ← HV1.out] at HN
  go_wp2_with fail
  refine HN.out.mono ?_
  rintro e w2 ⟨rfl, r2, g2⟩
  have hs2 := HS.out.call r2 g2
  clear HS HN r2 g2
  have f2 := hs2.a2.f 2
  obtain ⟨d0, d1, d2, d3, d4, d5, d6, d7⟩ := hs2.a2.all8
  have HS := Lib.hid (hs2.put ((Below.refl _ _).setCell (by exact Nat.le_refl _) _) (hs2.a2.set2 v1))
  clear hs2
  simp only [Sl.zero, Ds.zero] at d2
  go_upto_region 5 with fail
  clear d0 d1 d2 d3 d4 d5 d6 d7 f2
  generalize w2.setCell ⟨w.heap.size + 1, 2, none⟩ (.int .i64 v1) = W2 at HS ⊢
  have hn := desc_ok p ((ys.drop 1).drop 1) _ HS.out.r (by omega) h4
  rw [← HDD.out, ← HRS.out] at hn
  have HN := Lib.hid hn
  clear hn
  go_wp2_with fail
  refine HN.out.mono ?_
  rintro e w3 ⟨rfl, r3, g3⟩
  have hs3 := HS.out.call r3 g3
  clear HS HN r3 g3
  unfold dsVal
  have f3 := hs3.a2.f 3; have f4 := hs3.a2.f 4; have f5 := hs3.a2.f 5; have f6 := hs3.a2.f 6; have f7 := hs3.a2.f 7
  obtain ⟨d0, d1, d2, d3, d4, d5, d6, d7⟩ := hs3.a2.all8
  have HS := Lib.hid (hs3.put (below_slD (Nat.le_refl _) d) (hs3.a2.setD d))
  clear hs3
  try simp only [Sl.zero, Ds.zero] at d3 d4 d5 d6 d7
  go_upto_region 6 with fail
  clear d0 d1 d2 d3 d4 d5 d6 d7 f3 f4 f5 f6 f7
  change Code.wp _ _ _ _ (setSlD w3 (w.heap.size + 1) d)
  generalize setSlD w3 (w.heap.size + 1) d = W3 at HS ⊢
  try dsimp only [Sl.zero, Ds.zero] at HS
  obtain ⟨d0, d1, d2, d3, d4, d5, d6, d7⟩ := HS.out.a2.all8
  obtain ⟨e0, e1, e2, e3, e4, e5, e6, e7⟩ := HS.out.a1.all8
  simp only [Sl.zero, Ds.zero] at e0 e1 e2 e3 e4 e5 e6 e7
  try dsimp only at d0 d1 d2 d3 d4 d5 d6 d7
  have f0 := HS.out.a1.f 0; have f1 := HS.out.a1.f 1; have f2 := HS.out.a1.f 2; have f3 := HS.out.a1.f 3; have f4 := HS.out.a1.f 4; have f5 := HS.out.a1.f 5; have f6 := HS.out.a1.f 6; have f7 := HS.out.a1.f 7
  go_wp2_with fail
  clear d0 d1 d2 d3 d4 d5 d6 d7 e0 e1 e2 e3 e4 e5 e6 e7 f0 f1 f2 f3 f4 f5 f6 f7
  change bodyPost _ _ _ _ _ (setSl W3 w.heap.size 0 ⟨v0 / 16, v0 % 16, v1, d⟩)
  have SF := HS.out.a1.put ⟨v0 / 16, v0 % 16, v1, d⟩
  have BF := below_setSl (B := w.heap.size) (w := W3) (off := 0) (Nat.le_refl _) ⟨v0 / 16, v0 % 16, v1, d⟩
  have RF := HS.out.r.below BF HS.out.lt
  have GF := grown_low HS.out.g BF
  generalize setSl W3 w.heap.size 0 ⟨v0 / 16, v0 % 16, v1, d⟩ = wz at SF BF RF GF ⊢
  obtain ⟨e0, e1, e2, e3, e4, e5, e6, e7⟩ := SF.all8
  exact bodyPost_ret (v := slVal ⟨v0 / 16, v0 % 16, v1, d⟩) (by simp [slVal, results, Try.results83, go_sem, e0, e1, e2, e3, e4, e5, e6, e7]) rfl ⟨rfl, RF, GF⟩
theorem drops7 (ys : List Int) : ((ys.drop 1).drop 1).drop 5 = ys.drop 7 ∧ (ys.drop 1).drop 1 = ys.drop 2 := by simp [List.drop_drop]
theorem slot_any (p : Nat) (ys : List Int) (w : World) (h : RdrAt w p ys) (_hl : ys.length ≤ 1048576) :
    Calls Try.prog 83 #[.pointer (some ⟨p, 0, none⟩)] w (GotSl w p (pSl ys)) := by
  obtain ⟨q1, q2⟩ := drops7 ys
  have l1 : (ys.drop 1).length = ys.length - 1 := List.length_drop
  have l2 : ((ys.drop 1).drop 1).length = ys.length - 2 := by rw [q2, List.length_drop]
  have e1 : (ys.drop 1).getD 0 0 = ys.getD 1 0 := dropS ys 1 0
  unfold pSl
  by_cases h7 : ys.length < 7
  · rw [if_pos h7]
    by_cases h1 : ys.length < 1
    · exact slot_bad1 p ys w h h1
    by_cases h2 : (ys.drop 1).length < 1
    · exact slot_bad2 p ys w h h1 h2
    exact slot_bad3 p ys w h h1 h2 (by omega)
  rw [if_neg h7]
  by_cases h4 : (descFrom ((ys.drop 2).take 5)).2 = 0
  · rw [if_pos h4]
    have := slot_ok p ys w h (by omega) (by omega) (by omega) (by rw [q2]; exact h4)
    rwa [q1, q2, e1] at this
  · rw [if_neg h4]
    exact slot_bad4 p ys w h (by omega) (by omega) (by omega) (by rw [q2]; exact h4)
end Go.Proofs.Ytggnoeeaoligdaa
