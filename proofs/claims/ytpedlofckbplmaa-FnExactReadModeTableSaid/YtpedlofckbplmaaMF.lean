/-
  Chapter 11: the program's reader: a mode, a table of modes.
-/
import Derived.Test.YtpedlofckbplmaaME
import Derived.Test.YtpedlofckbplmaaRdT
import Derived.Test.YtpedlofckbplmaaQ1
namespace Go.Proofs.Ytpedlofckbplmaa
open Go.RowKit

/-- The state within the reader's mode: the reader, the result's cell, the entry. -/
structure MdSt (w W : World) (p : Nat) (rest : List Int) (c : Mc) : Prop where
  r : RdrAt W p rest
  a1 : McAt 78 W w.heap.size Mc.zero
  a2 : McAt 78 W (w.heap.size + 1) c
  g : w.grownBy W (some p)
  lt : p < w.heap.size
theorem bytes_at_ {xs : List Int} (h : ∀ x ∈ xs, 0 ≤ x ∧ x ≤ 255) (i : Nat) : 0 ≤ xs.getD i 0 ∧ xs.getD i 0 ≤ 255 := by
  by_cases hi : i < xs.length
  · exact h _ (getD_mem' hi)
  · simp [List.getD, List.getElem?_eq_none (Nat.not_lt.1 hi)]
theorem MdSt.start {w : World} {p : Nat} {rest : List Int} (h : RdrAt w p rest) : MdSt w ((w.alloc (.cells #[.int .i64 0, .int .i64 0, .slice none 0 0] 78)).alloc (.cells #[.int .i64 0, .int .i64 0, .slice none 0 0] 78)) p rest Mc.zero := by
  have hb1 : Below w.heap.size w (w.alloc (.cells #[.int .i64 0, .int .i64 0, .slice none 0 0] 78)) := (Below.refl _ _).alloc (Nat.le_refl _) _
  have hb2 : Below (w.alloc (.cells #[.int .i64 0, .int .i64 0, .slice none 0 0] 78)).heap.size (w.alloc (.cells #[.int .i64 0, .int .i64 0, .slice none 0 0] 78)) ((w.alloc (.cells #[.int .i64 0, .int .i64 0, .slice none 0 0] 78)).alloc (.cells #[.int .i64 0, .int .i64 0, .slice none 0 0] 78)) := (Below.refl _ _).alloc (Nat.le_refl _) _
  have hb := below_two hb1 hb2
  refine ⟨h.below hb h.lt, ?_, ?_, grown_of_b hb _, h.lt⟩
  · exact (McAt.new (c := Mc.zero) w).below hb2 (by simp)
  · have h0 := McAt.new (c := Mc.zero) (T := 78) (w.alloc (.cells #[.int .i64 0, .int .i64 0, .slice none 0 0] 78))
    rw [World.size_alloc] at h0
    exact h0
section
variable {w W W' : World} {p : Nat} {rest rest' : List Int} {c : Mc}
theorem MdSt.size (h : MdSt w W p rest c) : w.heap.size + 2 ≤ W.heap.size := by have := h.a2.lt; omega
theorem MdSt.call (h : MdSt w W p rest c) (hr : RdrAt W' p rest') (hg : W.grownBy W' (some p)) : MdSt w W' p rest' c :=
  ⟨hr, h.a1.grown hg (by have := h.lt; intro e; cases e; omega), h.a2.grown hg (by have := h.lt; intro e; cases e; omega), grown_trans h.g hg, h.lt⟩
theorem MdSt.below (h : MdSt w W p rest c) (hb : Below W.heap.size W W') : MdSt w W' p rest c :=
  ⟨h.r.below hb h.r.lt, h.a1.below hb h.a1.lt, h.a2.below hb h.a2.lt, grown_trans h.g (grown_of_b hb _), h.lt⟩
theorem MdSt.low {B : Nat} (h : MdSt w W p rest c) (hb : Below B W W') (hB : w.heap.size + 2 ≤ B) : MdSt w W' p rest c :=
  ⟨h.r.below hb (by have := h.lt; omega), h.a1.below hb (by omega), h.a2.below hb (by omega), grown_low h.g (hb.mono (by omega)), h.lt⟩
theorem MdSt.bad {e : Ending} (h : MdSt w W p rest c) (hb : Bad W p e W') : Bad w p e W' := ⟨hb.1, grown_trans h.g hb.2⟩
theorem MdSt.setx (h : MdSt w W p rest c) (j : Nat) (v : Value) (d : Mc) (hd : McAt 78 (W.setCell ⟨w.heap.size + 1, j, none⟩ v) (w.heap.size + 1) d) : MdSt w (W.setCell ⟨w.heap.size + 1, j, none⟩ v) p rest d := by
  have hg := grown_set' W (w.heap.size + 1) j v
  have hb : Below w.heap.size W (W.setCell ⟨w.heap.size + 1, j, none⟩ v) := (Below.refl _ _).setCell (show w.heap.size ≤ w.heap.size + 1 by omega) _
  exact ⟨h.r.below hb h.lt, h.a1.grown hg (by simp), hd, grown_low h.g hb, h.lt⟩
end
theorem own_no {E base b : Nat} {w : World} {v : Value} {xs : List Int} (h : Own E w base v xs) (hb : b < base) : v.ownBlock = none ∨ v.ownBlock ≠ some b := by
  rcases hv : v.ownBlock with _ | k
  · exact .inl rfl
  · refine .inr (fun e => ?_)
    have := (h.block k hv).1
    cases e
    omega
/-- What a mode's reading leaves. -/
def GotMd (w : World) (p : Nat) (o : Option (Md × List Int)) (e : Ending) (w' : World) : Prop :=
  match o with
  | some (x, r) => ∃ c : Mc, c.md = x ∧ e = .returned (mcVal c) ∧ Own 2 w' w.heap.size c.v c.md.next ∧ RdrAt w' p r ∧ w.grownBy w' (some p)
  | none => Bad w p e w'
set_option maxHeartbeats 2000000 in
set_option maxRecDepth 100000 in
theorem mode_bad1 (p : Nat) (ys : List Int) (w : World) (h : RdrAt w p ys) (h1 : ys.length < 1) :
    Calls Try.prog 72 #[.pointer (some ⟨p, 0, none⟩)] w (Bad w p) := by
  have HS := Lib.hid (MdSt.start h)
  have hby := h.bytes
  clear h
  go_enter Try.func72, Try.ntmps72
  go_upto_region 2 with fail
  generalize (w.alloc (.cells #[.int .i64 0, .int .i64 0, .slice none 0 0] 78)).alloc (.cells #[.int .i64 0, .int .i64 0, .slice none 0 0] 78) = W0 at HS ⊢
  have HN := Lib.hid (number_bad p 1 ys _ HS.out.r (by omega))
  go_wp2_with fail
  refine HN.out.mono ?_
  rintro e w9 hbad
  have HBAD := HS.out.bad hbad
  obtain ⟨u, v, rfl⟩ := hbad.1
  clear HS HN hbad
  go_wp2_with fail
  exact ⟨rfl, HBAD⟩
set_option maxHeartbeats 2000000 in
set_option maxRecDepth 100000 in
theorem mode_bad2 (p : Nat) (ys : List Int) (w : World) (h : RdrAt w p ys) (h1 : ¬ ys.length < 1) (h2 : (ys.drop 1).length < 1) :
    Calls Try.prog 72 #[.pointer (some ⟨p, 0, none⟩)] w (Bad w p) := by
  have HS := Lib.hid (MdSt.start h)
  have hby := h.bytes
  clear h
  obtain ⟨v0, hv0⟩ : ∃ v, v = ys.getD 0 0 := ⟨_, rfl⟩
  obtain ⟨v1, hv1⟩ : ∃ v, v = (ys.drop 1).getD 0 0 := ⟨_, rfl⟩
  have HV0 := Lib.hid hv0; have HV1 := Lib.hid hv1
  clear hv0 hv1
  go_enter Try.func72, Try.ntmps72
  go_upto_region 2 with fail
  generalize (w.alloc (.cells #[.int .i64 0, .int .i64 0, .slice none 0 0] 78)).alloc (.cells #[.int .i64 0, .int .i64 0, .slice none 0 0] 78) = W0 at HS ⊢
  have HN := Lib.hid (number_ok p 1 ys _ HS.out.r (by omega) (by omega))
  rw [byteNum_one (by omega), ← HV0.out] at HN
  go_wp2_with fail
  refine HN.out.mono ?_
  rintro e w0 ⟨rfl, r0, g0⟩
  have hs0 := HS.out.call r0 g0
  clear HS HN r0 g0
  obtain ⟨d0, d1, d2⟩ := hs0.a2.in_
  have f0 := hs0.a2.f 0
  have HS := Lib.hid (hs0.setx 0 (.int .i64 (v0)) _ (hs0.a2.set0 (v0)))
  clear hs0
  try simp only [Mc.zero, Md.zero, List.length_nil] at d0 d1 d2
  go_upto_region 3 with fail
  clear d0 d1 d2 f0
  generalize w0.setCell ⟨w.heap.size + 1, 0, none⟩ (.int .i64 (v0)) = W1 at HS ⊢
  have HN := Lib.hid (number_bad p 1 (ys.drop 1) _ HS.out.r (by omega))
  go_wp2_with fail
  refine HN.out.mono ?_
  rintro e w9 hbad
  have HBAD := HS.out.bad hbad
  obtain ⟨u, v, rfl⟩ := hbad.1
  clear HS HN hbad
  go_wp2_with fail
  exact ⟨rfl, HBAD⟩
set_option maxHeartbeats 2000000 in
set_option maxRecDepth 100000 in
theorem mode_bad3 (p : Nat) (ys : List Int) (w : World) (h : RdrAt w p ys) (h1 : ¬ ys.length < 1) (h2 : ¬ (ys.drop 1).length < 1) (h3 : ((ys.drop 1).drop 1).length < 1) :
    Calls Try.prog 72 #[.pointer (some ⟨p, 0, none⟩)] w (Bad w p) := by
  have HS := Lib.hid (MdSt.start h)
  have hby := h.bytes
  clear h
  obtain ⟨v0, hv0⟩ : ∃ v, v = ys.getD 0 0 := ⟨_, rfl⟩
  obtain ⟨v1, hv1⟩ : ∃ v, v = (ys.drop 1).getD 0 0 := ⟨_, rfl⟩
  have HV0 := Lib.hid hv0; have HV1 := Lib.hid hv1
  clear hv0 hv1
  go_enter Try.func72, Try.ntmps72
  go_upto_region 2 with fail
  generalize (w.alloc (.cells #[.int .i64 0, .int .i64 0, .slice none 0 0] 78)).alloc (.cells #[.int .i64 0, .int .i64 0, .slice none 0 0] 78) = W0 at HS ⊢
  have HN := Lib.hid (number_ok p 1 ys _ HS.out.r (by omega) (by omega))
  rw [byteNum_one (by omega), ← HV0.out] at HN
  go_wp2_with fail
  refine HN.out.mono ?_
  rintro e w0 ⟨rfl, r0, g0⟩
  have hs0 := HS.out.call r0 g0
  clear HS HN r0 g0
  obtain ⟨d0, d1, d2⟩ := hs0.a2.in_
  have f0 := hs0.a2.f 0
  have HS := Lib.hid (hs0.setx 0 (.int .i64 (v0)) _ (hs0.a2.set0 (v0)))
  clear hs0
  try simp only [Mc.zero, Md.zero, List.length_nil] at d0 d1 d2
  go_upto_region 3 with fail
  clear d0 d1 d2 f0
  generalize w0.setCell ⟨w.heap.size + 1, 0, none⟩ (.int .i64 (v0)) = W1 at HS ⊢
  have HN := Lib.hid (number_ok p 1 (ys.drop 1) _ HS.out.r (by omega) (by omega))
  rw [byteNum_one (by omega), ← HV1.out] at HN
  go_wp2_with fail
  refine HN.out.mono ?_
  rintro e w1 ⟨rfl, r1, g1⟩
  have hs1 := HS.out.call r1 g1
  clear HS HN r1 g1
  obtain ⟨d0, d1, d2⟩ := hs1.a2.in_
  have f1 := hs1.a2.f 1
  have HS := Lib.hid (hs1.setx 1 (.int .i64 (v1)) _ (hs1.a2.set1 (v1)))
  clear hs1
  try simp only [Mc.zero, Md.zero, List.length_nil] at d0 d1 d2
  go_upto_region 4 with fail
  clear d0 d1 d2 f1
  generalize w1.setCell ⟨w.heap.size + 1, 1, none⟩ (.int .i64 (v1)) = W2 at HS ⊢
  generalize (ys.drop 1).drop 1 = zs at h3 HS
  have hb10 : Below W2.heap.size W2 (W2.alloc (.cells #[] 2)) := (Below.refl _ _).alloc (Nat.le_refl _) _
  have hs10 := HS.out.below hb10
  clear HS
  have HS := Lib.hid hs10
  clear hs10 hb10
  have HN := Lib.hid (number_bad p 1 zs _ HS.out.r (by omega))
  go_wp2_with fail
  refine HN.out.mono ?_
  rintro e w9 hbad
  have HBAD := HS.out.bad hbad
  obtain ⟨u, v, rfl⟩ := hbad.1
  clear HS HN hbad
  go_wp2_with fail
  exact ⟨rfl, HBAD⟩
set_option maxHeartbeats 2000000 in
set_option maxRecDepth 100000 in
theorem mode_bad4 (p : Nat) (ys : List Int) (w : World) (h : RdrAt w p ys) (h1 : ¬ ys.length < 1) (h2 : ¬ (ys.drop 1).length < 1) (h3 : ¬ ((ys.drop 1).drop 1).length < 1) (h4 : (((ys.drop 1).drop 1).drop 1).length < (((ys.drop 1).drop 1).getD 0 0).toNat) :
    Calls Try.prog 72 #[.pointer (some ⟨p, 0, none⟩)] w (Bad w p) := by
  have HS := Lib.hid (MdSt.start h)
  have hby := h.bytes
  clear h
  have hbn := bytes_at_ (byte_drop (byte_drop hby 1) 1) 0
  obtain ⟨n, hn⟩ : ∃ n : Nat, n = (((ys.drop 1).drop 1).getD 0 0).toNat := ⟨_, rfl⟩
  have hn0 : ((ys.drop 1).drop 1).getD 0 0 = (n : Int) := by omega
  rw [← hn] at h4
  obtain ⟨zs, hzs⟩ : ∃ zs, zs = (ys.drop 1).drop 1 := ⟨_, rfl⟩
  rw [← hzs] at h3 h4 hn0
  have HZS := Lib.hid hzs; clear hzs hn
  have HN0 := Lib.hid hn0
  clear hbn hn0 hby
  obtain ⟨v0, hv0⟩ : ∃ v, v = ys.getD 0 0 := ⟨_, rfl⟩
  obtain ⟨v1, hv1⟩ : ∃ v, v = (ys.drop 1).getD 0 0 := ⟨_, rfl⟩
  have HV0 := Lib.hid hv0; have HV1 := Lib.hid hv1
  clear hv0 hv1
  go_enter Try.func72, Try.ntmps72
  go_upto_region 2 with fail
  generalize (w.alloc (.cells #[.int .i64 0, .int .i64 0, .slice none 0 0] 78)).alloc (.cells #[.int .i64 0, .int .i64 0, .slice none 0 0] 78) = W0 at HS ⊢
  have HN := Lib.hid (number_ok p 1 ys _ HS.out.r (by omega) (by omega))
  rw [byteNum_one (by omega), ← HV0.out] at HN
  go_wp2_with fail
  refine HN.out.mono ?_
  rintro e w0 ⟨rfl, r0, g0⟩
  have hs0 := HS.out.call r0 g0
  clear HS HN r0 g0
  obtain ⟨d0, d1, d2⟩ := hs0.a2.in_
  have f0 := hs0.a2.f 0
  have HS := Lib.hid (hs0.setx 0 (.int .i64 (v0)) _ (hs0.a2.set0 (v0)))
  clear hs0
  try simp only [Mc.zero, Md.zero, List.length_nil] at d0 d1 d2
  go_upto_region 3 with fail
  clear d0 d1 d2 f0
  generalize w0.setCell ⟨w.heap.size + 1, 0, none⟩ (.int .i64 (v0)) = W1 at HS ⊢
  have HN := Lib.hid (number_ok p 1 (ys.drop 1) _ HS.out.r (by omega) (by omega))
  rw [byteNum_one (by omega), ← HV1.out] at HN
  go_wp2_with fail
  refine HN.out.mono ?_
  rintro e w1 ⟨rfl, r1, g1⟩
  have hs1 := HS.out.call r1 g1
  clear HS HN r1 g1
  obtain ⟨d0, d1, d2⟩ := hs1.a2.in_
  have f1 := hs1.a2.f 1
  have HS := Lib.hid (hs1.setx 1 (.int .i64 (v1)) _ (hs1.a2.set1 (v1)))
  clear hs1
  try simp only [Mc.zero, Md.zero, List.length_nil] at d0 d1 d2
  go_upto_region 4 with fail
  clear d0 d1 d2 f1
  generalize w1.setCell ⟨w.heap.size + 1, 1, none⟩ (.int .i64 (v1)) = W2 at HS ⊢
  clear HV0 HV1
  rw [← HZS.out] at HS
  have hb10 : Below W2.heap.size W2 (W2.alloc (.cells #[] 2)) := (Below.refl _ _).alloc (Nat.le_refl _) _
  have HO10 := Lib.hid (Own.of_alloc_nil (E := 2) (base := W2.heap.size) (w := W2) (Nat.le_refl _))
  have HSZ := Lib.hid HS.out.size
  have hs10 := HS.out.below hb10
  clear HS
  have HS := Lib.hid hs10
  clear hs10
  have hpl : p < W2.heap.size := by have := HS.out.lt; have := HSZ.out; omega
  have HN := Lib.hid (number_ok p 1 zs _ HS.out.r (by omega) (by omega))
  rw [byteNum_one (by omega), HN0.out] at HN
  go_wp2_with fail
  refine HN.out.mono ?_
  rintro e w4 ⟨rfl, r4, g4⟩
  have HS4 := Lib.hid (HS.out.call r4 g4)
  clear HS HN r4 g4 HO10 hb10
  have HT := Lib.hid (take_bad p n (zs.drop 1) _ HS4.out.r (by omega))
  go_wp2_with fail
  refine HT.out.mono ?_
  rintro e w9 hbad
  have HBAD := HS4.out.bad hbad
  obtain ⟨u, v, rfl⟩ := hbad.1
  clear HS4 HT hbad
  go_wp2_with fail
  exact ⟨rfl, HBAD⟩
set_option maxHeartbeats 2000000 in
set_option maxRecDepth 100000 in
theorem mode_ok (p : Nat) (ys : List Int) (w : World) (h : RdrAt w p ys) (h1 : ¬ ys.length < 1) (h2 : ¬ (ys.drop 1).length < 1) (h3 : ¬ ((ys.drop 1).drop 1).length < 1) (h4 : ¬ (((ys.drop 1).drop 1).drop 1).length < (((ys.drop 1).drop 1).getD 0 0).toNat) (hl : ys.length ≤ 1048576) :
    Calls Try.prog 72 #[.pointer (some ⟨p, 0, none⟩)] w (GotMd w p (some (⟨ys.getD 0 0, (ys.drop 1).getD 0 0, (((ys.drop 1).drop 1).drop 1).take (((ys.drop 1).drop 1).getD 0 0).toNat⟩, (((ys.drop 1).drop 1).drop 1).drop (((ys.drop 1).drop 1).getD 0 0).toNat))) := by
  have HS := Lib.hid (MdSt.start h)
  have hby := h.bytes
  clear h
  have hbn := bytes_at_ (byte_drop (byte_drop hby 1) 1) 0
  obtain ⟨n, hn⟩ : ∃ n : Nat, n = (((ys.drop 1).drop 1).getD 0 0).toNat := ⟨_, rfl⟩
  have hn0 : ((ys.drop 1).drop 1).getD 0 0 = (n : Int) := by omega
  rw [← hn] at h4 ⊢
  obtain ⟨zs, hzs⟩ : ∃ zs, zs = (ys.drop 1).drop 1 := ⟨_, rfl⟩
  rw [← hzs] at h3 h4 hn0 ⊢
  have HZS := Lib.hid hzs; clear hzs hn
  have hln : (zs.drop 1).length ≤ 1048576 := by rw [HZS.out]; simp only [List.length_drop]; omega
  obtain ⟨xs, hxs⟩ : ∃ xs, xs = (zs.drop 1).take n := ⟨_, rfl⟩
  obtain ⟨rs, hrs⟩ : ∃ rs, rs = (zs.drop 1).drop n := ⟨_, rfl⟩
  rw [← hxs, ← hrs]
  have HXL := Lib.hid (show xs.length ≤ 1048576 by rw [hxs, List.length_take]; omega)
  have HXS := Lib.hid hxs; have HRS := Lib.hid hrs; clear hxs hrs
  have HN0 := Lib.hid hn0
  clear hbn hn0 hby
  obtain ⟨v0, hv0⟩ : ∃ v, v = ys.getD 0 0 := ⟨_, rfl⟩
  obtain ⟨v1, hv1⟩ : ∃ v, v = (ys.drop 1).getD 0 0 := ⟨_, rfl⟩
  have HV0 := Lib.hid hv0; have HV1 := Lib.hid hv1
  rw [← hv0, ← hv1]
  clear hv0 hv1
  go_enter Try.func72, Try.ntmps72
  go_upto_region 2 with fail
  generalize (w.alloc (.cells #[.int .i64 0, .int .i64 0, .slice none 0 0] 78)).alloc (.cells #[.int .i64 0, .int .i64 0, .slice none 0 0] 78) = W0 at HS ⊢
  have HN := Lib.hid (number_ok p 1 ys _ HS.out.r (by omega) (by omega))
  rw [byteNum_one (by omega), ← HV0.out] at HN
  go_wp2_with fail
  refine HN.out.mono ?_
  rintro e w0 ⟨rfl, r0, g0⟩
  have hs0 := HS.out.call r0 g0
  clear HS HN r0 g0
  obtain ⟨d0, d1, d2⟩ := hs0.a2.in_
  have f0 := hs0.a2.f 0
  have HS := Lib.hid (hs0.setx 0 (.int .i64 (v0)) _ (hs0.a2.set0 (v0)))
  clear hs0
  try simp only [Mc.zero, Md.zero, List.length_nil] at d0 d1 d2
  go_upto_region 3 with fail
  clear d0 d1 d2 f0
  generalize w0.setCell ⟨w.heap.size + 1, 0, none⟩ (.int .i64 (v0)) = W1 at HS ⊢
  have HN := Lib.hid (number_ok p 1 (ys.drop 1) _ HS.out.r (by omega) (by omega))
  rw [byteNum_one (by omega), ← HV1.out] at HN
  go_wp2_with fail
  refine HN.out.mono ?_
  rintro e w1 ⟨rfl, r1, g1⟩
  have hs1 := HS.out.call r1 g1
  clear HS HN r1 g1
  obtain ⟨d0, d1, d2⟩ := hs1.a2.in_
  have f1 := hs1.a2.f 1
  have HS := Lib.hid (hs1.setx 1 (.int .i64 (v1)) _ (hs1.a2.set1 (v1)))
  clear hs1
  try simp only [Mc.zero, Md.zero, List.length_nil] at d0 d1 d2
  go_upto_region 4 with fail
  clear d0 d1 d2 f1
  generalize w1.setCell ⟨w.heap.size + 1, 1, none⟩ (.int .i64 (v1)) = W2 at HS ⊢
  clear HV0 HV1
  rw [← HZS.out] at HS
  have hb10 : Below W2.heap.size W2 (W2.alloc (.cells #[] 2)) := (Below.refl _ _).alloc (Nat.le_refl _) _
  have HO10 := Lib.hid (Own.of_alloc_nil (E := 2) (base := W2.heap.size) (w := W2) (Nat.le_refl _))
  have HSZ := Lib.hid HS.out.size
  have hs10 := HS.out.below hb10
  clear HS
  have HS := Lib.hid hs10
  clear hs10
  have hpl : p < W2.heap.size := by have := HS.out.lt; have := HSZ.out; omega
  have HN := Lib.hid (number_ok p 1 zs _ HS.out.r (by omega) (by omega))
  rw [byteNum_one (by omega), HN0.out] at HN
  go_wp2_with fail
  refine HN.out.mono ?_
  rintro e w4 ⟨rfl, r4, g4⟩
  have HS4 := Lib.hid (HS.out.call r4 g4)
  have HO4 := Lib.hid (HO10.out.only g4 (.inr (by simp [Value.ownBlock]; omega)))
  have HZ4 := Lib.hid (Nat.le_trans (show W2.heap.size + 1 ≤ (W2.alloc (.cells #[] 2)).heap.size by simp) g4.size)
  clear HS HN r4 g4 HO10 hb10
  have HT := Lib.hid (take_ok p n (zs.drop 1) _ HS4.out.r (by omega))
  go_wp2_with fail
  refine HT.out.mono ?_
  rintro e w5 ⟨tao, tc, rfl, tr, -, -, -, r5, g5⟩
  have HS5 := Lib.hid (HS4.out.call r5 g5)
  have HO5 := Lib.hid (HO4.out.only g5 (.inr (by simp [Value.ownBlock]; omega)))
  have HZ5 := Lib.hid (Nat.le_trans HZ4.out g5.size)
  have HTR := Lib.hid tr
  clear tr r5 g5 HS4 HO4 HZ4 HT
  have HNL := Lib.hid (show n ≤ 1048576 by omega)
  rw [← HXS.out] at HTR
  rw [← HRS.out] at HS5
  go_upto_region 5 with (at_builtin; refine append_list _ rfl (.tmp 10) (.tmp 14) rfl W2.heap.size Try.underlying26 info64 _ [] rfl HO5.out _ _ _ xs rfl HTR.out (by have := HNL.out; rw [List.length_nil]; omega) (by have := HZ5.out; omega) ?_; intro v6 w6 o6 b6; rw [List.nil_append] at o6; obtain ⟨ao6, c6, rfl, o6, -⟩ := o6.get; have hs6 := HS5.out.low b6 HSZ.out; obtain ⟨d0, d1, d2⟩ := hs6.a2.in_; have f2 := hs6.a2.f 2; have HS6 := Lib.hid (hs6.setx 2 (.slice ao6 xs.length c6) _ (hs6.a2.set2 xs ao6 c6)); have HO6 := Lib.hid (o6.only (g := some (w.heap.size + 1)) (grown_set' w6 (w.heap.size + 1) 2 (.slice ao6 xs.length c6)) (own_no o6 (by have := HSZ.out; omega))); clear hs6 o6 b6)
  clear d0 d1 d2 f2 HS5 HO5 HZ5 HTR
  dsimp only at HS6
  generalize w6.setCell ⟨w.heap.size + 1, 2, none⟩ (.slice ao6 xs.length c6) = W3 at HS6 HO6 ⊢
  obtain ⟨d0, d1, d2⟩ := HS6.out.a2.in_
  obtain ⟨e0, e1, e2⟩ := HS6.out.a1.in_
  have f0 := HS6.out.a1.f 0; have f1 := HS6.out.a1.f 1; have f2 := HS6.out.a1.f 2
  simp only [Mc.zero, Md.zero, List.length_nil] at e0 e1 e2
  dsimp only at d0 d1 d2
  go_wp2_with fail
  clear d0 d1 d2 e0 e1 e2 f0 f1 f2
  change bodyPost _ _ _ _ _ (setMc W3 w.heap.size 0 ⟨⟨v0, v1, xs⟩, ao6, c6⟩)
  have SF := HS6.out.a1.put (d := ⟨⟨v0, v1, xs⟩, ao6, c6⟩)
  have BF := below_mc (B := w.heap.size) (w := W3) (off := 0) (Nat.le_refl _) ⟨⟨v0, v1, xs⟩, ao6, c6⟩
  have RF := HS6.out.r.below BF HS6.out.lt
  have GF := grown_low HS6.out.g BF
  have OF := HO6.out.only (g := some w.heap.size) (grown_trans (grown_trans (grown_set' W3 w.heap.size 0 (.int .i64 v0)) (grown_set' _ w.heap.size 1 (.int .i64 v1))) (grown_set' _ w.heap.size 2 (.slice ao6 xs.length c6))) (own_no HO6.out (by have := HSZ.out; omega))
  change Own _ (setMc W3 w.heap.size 0 ⟨⟨v0, v1, xs⟩, ao6, c6⟩) _ _ _ at OF
  generalize setMc W3 w.heap.size 0 ⟨⟨v0, v1, xs⟩, ao6, c6⟩ = wz at SF BF OF RF GF ⊢
  obtain ⟨e0, e1, e2⟩ := SF.in_
  exact bodyPost_ret (v := mcVal ⟨⟨v0, v1, xs⟩, ao6, c6⟩) (by simp [mcVal, results, Try.results72, go_sem, e0, e1, e2]) rfl ⟨⟨⟨v0, v1, xs⟩, ao6, c6⟩, rfl, rfl, OF.more (by have := HSZ.out; omega), RF, GF⟩
end Go.Proofs.Ytpedlofckbplmaa
