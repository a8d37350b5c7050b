/-
  Chapter 4: impl.ReadState. (Written by wip/gen/gen_c4z.py.)
-/
import Derived.Test.YtkidhilipeoliaaDoorC4y
import Derived.Test.YtkidhilipeoliaaDoorC4x
import Derived.Test.YtkidhilipeoliaaDoorShelfR
import Derived.Lib.AtoiErrMem
namespace Go.Proofs.YtkidhilipeoliaaDoor
open Go.RowKit
/-- What the library's functions read: the table, MaxLen, the two errors. -/
def ReadHere (w : World) : Prop := TabHere w ∧ (∃ m, w.cell? ⟨3, 0, none⟩ = some (.int .i64 m)) ∧ (∃ ev, w.cell? ⟨0, 0, none⟩ = some ev ∧ (ev = .nilIface ∨ ∃ te pe, ev = .iface te pe)) ∧ ∃ ev, w.cell? ⟨1, 0, none⟩ = some ev ∧ (ev = .nilIface ∨ ∃ te pe, ev = .iface te pe)
theorem ReadHere.below {B : Nat} {w w' : World} (h : ReadHere w) (hb : Below B w w') (hB : 3 < B) : ReadHere w' := by
  obtain ⟨h1, ⟨m, h2⟩, ⟨e0, h3, h3'⟩, ⟨e1, h4, h4'⟩⟩ := h
  exact ⟨h1.below hb hB, ⟨m, (hb.cell (p := ⟨3, 0, none⟩) hB).trans h2⟩, ⟨e0, (hb.cell (p := ⟨0, 0, none⟩) (by show 0 < B; omega)).trans h3, h3'⟩, ⟨e1, (hb.cell (p := ⟨1, 0, none⟩) (by show 1 < B; omega)).trans h4, h4'⟩⟩
theorem splitN_raw (s : ByteArray) (w : World) (hR : ReadHere w) (hs : s.size ≤ 1048576) : Calls Tryd.prog 31 #[.string s, .string ⟨#[47]⟩, .int .i64 5] w fun e w' =>
    ∃ b cap, e = .returned (.slice (some ⟨b, 0, none⟩) (partsOf s).length cap) ∧ (∀ i, i < (partsOf s).length → w'.cell? ⟨b, i, none⟩ = some (.string ((partsOf s).getD i ByteArray.empty))) ∧ Below w.heap.size w w' := by
  obtain ⟨-, ⟨m, hm⟩, -, -⟩ := hR
  refine (shelfrstringsSplitN s ⟨#[47]⟩ 5 m w (by omega) hm (by decide) (by decide) (by decide)).mono ?_
  rintro e w' ⟨rfl, rfl⟩
  refine ⟨w.heap.size, _, rfl, fun i hi => ?_, (Below.refl _ _).alloc (Nat.le_refl _) _⟩
  rw [World.cell?_alloc_at _ _ _ _ rfl]
  have hi' : i < (Lib.splitB ⟨#[47]⟩ 0 (min 5 (s.size + 1) - 1) s).length := hi
  unfold Lib.cellsOf
  simp [List.getElem?_append, hi', List.getD, partsOf]
theorem splitN_other (s : ByteArray) (w : World) (hR : ReadHere w) (hs : s.size ≤ 1048576) (h : (partsOf s).length ≠ 5) : Calls Tryd.prog 31 #[.string s, .string ⟨#[47]⟩, .int .i64 5] w fun e w' =>
    ∃ b n cap, e = .returned (.slice (some ⟨b, 0, none⟩) n cap) ∧ ((n : Int) != 5) = true ∧ Below w.heap.size w w' :=
  (splitN_raw s w hR hs).mono fun e w' ⟨b, cap, he, _, hb⟩ => ⟨b, _, cap, he, by simp; omega, hb⟩
theorem splitN_five (s : ByteArray) (w : World) (hR : ReadHere w) (hs : s.size ≤ 1048576) {p0 p1 p2 p3 p4 : ByteArray} (h : partsOf s = [p0, p1, p2, p3, p4]) : Calls Tryd.prog 31 #[.string s, .string ⟨#[47]⟩, .int .i64 5] w fun e w' =>
    ∃ b cap, e = .returned (.slice (some ⟨b, 0, none⟩) 5 cap) ∧ w'.cell? ⟨b, 0, none⟩ = some (.string p0) ∧ w'.cell? ⟨b, 1, none⟩ = some (.string p1) ∧ w'.cell? ⟨b, 2, none⟩ = some (.string p2) ∧ w'.cell? ⟨b, 3, none⟩ = some (.string p3) ∧ w'.cell? ⟨b, 4, none⟩ = some (.string p4) ∧ Below w.heap.size w w' :=
  (splitN_raw s w hR hs).mono fun e w' ⟨b, cap, he, hc, hb⟩ => by
    rw [h] at he hc
    exact ⟨b, cap, he, hc 0 (by simp), hc 1 (by simp), hc 2 (by simp), hc 3 (by simp), hc 4 (by simp), hb⟩
theorem parseInt_any (p : ByteArray) (w : World) (hR : ReadHere w) (hs : p.size ≤ 1048576) : Calls Tryd.prog 32 #[.string p, .int .i64 10, .int .i64 64] w fun e w' =>
    Below w.heap.size w w' ∧ ((e = .returned (.tuple #[.int .i64 (parsed p), .nilIface])) ∨ ((∀ v, Lib.parseIntB 64 p.data.toList ≠ .ok v) ∧ ∃ n te pv, e = .returned (.tuple #[.int .i64 n, .iface te pv]))) := by
  obtain ⟨-, -, ⟨e0, h0, h0'⟩, ⟨e1, h1, h1'⟩⟩ := hR
  rcases hp : Lib.parseIntB 64 p.data.toList with v | _ | _
  · refine (shelfrstrconvParseInt10at64ok p (by omega) v hp w).mono ?_
    rintro e w' ⟨rfl, hw⟩
    refine ⟨?_, .inl (by unfold parsed; rw [hp])⟩
    rcases hw with rfl | ⟨t, rfl⟩
    · exact Below.refl _ _
    · exact Lib.bytesWorld_below _ _ _
  · first
      | (refine (shelfrstrconvParseInt10at64syntax p (by omega) hp e0 w h0 h0').mono ?_
         rintro e w' ⟨N, rfl, _, _, hb⟩
         exact ⟨hb, .inr ⟨fun v h => (by cases h), _, _, _, rfl⟩⟩)
      | (refine (shelfrstrconvParseInt10at64range p (by omega) hp e1 w h1 h1').mono ?_
         rintro e w' ⟨N, rfl, _, _, hb⟩
         exact ⟨hb, .inr ⟨fun v h => (by cases h), _, _, _, rfl⟩⟩)
  · first
      | (refine (shelfrstrconvParseInt10at64syntax p (by omega) hp e0 w h0 h0').mono ?_
         rintro e w' ⟨N, rfl, _, _, hb⟩
         exact ⟨hb, .inr ⟨fun v h => (by cases h), _, _, _, rfl⟩⟩)
      | (refine (shelfrstrconvParseInt10at64range p (by omega) hp e1 w h1 h1').mono ?_
         rintro e w' ⟨N, rfl, _, _, hb⟩
         exact ⟨hb, .inr ⟨fun v h => (by cases h), _, _, _, rfl⟩⟩)
theorem list_five_s {xs : List ByteArray} (h : xs.length = 5) : ∃ a b c d e, xs = [a, b, c, d, e] := by
  match xs, h with
  | [a, b, c, d, e], _ => exact ⟨a, b, c, d, e, rfl⟩
theorem below_one_box (w : World) (o : Obj) : Below w.heap.size w (w.alloc o) := (Below.refl _ _).alloc (Nat.le_refl _) _
theorem splitB_size (sep : ByteArray) : ∀ (k : Nat) (s : ByteArray), ∀ p ∈ Lib.splitB sep 0 k s, p.size ≤ s.size
  | 0, s, p, h => by simp [Lib.splitB_zero] at h; subst h; exact Nat.le_refl _
  | k + 1, s, p, h => by
    unfold Lib.splitB at h
    split at h
    · simp at h; subst h; exact Nat.le_refl _
    · simp only [List.mem_cons] at h
      rcases h with rfl | h
      · simp only [ByteArray.size_extract]; omega
      · have := splitB_size sep k _ p h
        simp only [ByteArray.size_extract] at this
        omega
theorem partsOf_size {s p : ByteArray} (h : p ∈ partsOf s) : p.size ≤ s.size := splitB_size _ _ _ _ h
set_option maxHeartbeats 2000000 in
set_option maxRecDepth 100000 in
theorem readState_any (s : ByteArray) (w : World) (hR : ReadHere w) (hn : s.size ≤ 1048576) : Calls Tryd.prog 12 #[.string s] w (GivesRead w (readState (nums s))) := by
  have hws : 3 < w.heap.size := hR.1.2
  have HB0 := Lib.hid (below_zero_box w 25)
  have HR := Lib.hid (hR.below HB0.out hws); clear hR
  obtain ⟨o, ho⟩ : ∃ o, readState (nums s) = o := ⟨_, rfl⟩
  rw [ho]
  have HO := Lib.hid ho; clear ho
  by_cases hl : (partsOf s).length = 5
  · obtain ⟨p0, p1, p2, p3, p4, hp⟩ := list_five_s hl
    clear hl
    have HP := Lib.hid hp
    have hpl : ∀ p ∈ partsOf s, p.size ≤ 1048576 := fun p h => Nat.le_trans (partsOf_size h) hn
    rw [hp] at hpl
    have HS0 := Lib.hid (hpl p0 (by simp)); have HS1 := Lib.hid (hpl p1 (by simp)); have HS2 := Lib.hid (hpl p2 (by simp)); have HS3 := Lib.hid (hpl p3 (by simp)); have HS4 := Lib.hid (hpl p4 (by simp))
    have hB : ∀ p, p ∈ [p0, p1, p2, p3, p4] → (∀ v, Lib.parseIntB 64 p.data.toList ≠ .ok v) → o = none := fun p hm hx => by rw [← HO.out]; exact read_B (by rw [HP.out]; exact hm) hx
    have HB := Lib.hid hB; clear hB
    have hC := read_C hp
    rw [HO.out] at hC
    have HC := Lib.hid hC; clear hC hp hpl
    go_enter Tryd.func12, Tryd.ntmps12
    go_wp2_with (go_at_call 31; refine (splitN_five s _ HR.out hn HP.out).mono ?_; rintro e w2 ⟨bp, cap, rfl, q0, q1, q2, q3, q4, b2⟩; have ZB := Lib.hid (state_new b2); have B2 := Lib.hid (below_box b2); have R2 := Lib.hid (HR.out.below b2 (by simp; omega)); have W2 : 3 < w2.heap.size := R2.out.1.2; clear b2)
    have A0 := StateAt.new (T := 52) (t := 0) (m := 0) (r := 0) (s := 0) (k := 0) w2
    have BA : Below w2.heap.size w2 (w2.alloc (.cells #[.int .i64 0, .int .i64 0, .int .i64 0, .int .i64 0, .int .i64 0] 52)) := (Below.refl _ _).alloc (Nat.le_refl _) _
    have Q0 := Lib.hid q0; have Q1 := Lib.hid q1; have Q2 := Lib.hid q2; have Q3 := Lib.hid q3; have Q4 := Lib.hid q4
    clear q0 q1 q2 q3 q4
    go_loopw [19] (fun i wr => ((i = .int .i64 0 ∧ StateAt 52 wr w2.heap.size 0 0 0 0 0) ∨ (i = .int .i64 1 ∧ StateAt 52 wr w2.heap.size (parsed p0) 0 0 0 0) ∨ (i = .int .i64 2 ∧ StateAt 52 wr w2.heap.size (parsed p0) (parsed p1) 0 0 0) ∨ (i = .int .i64 3 ∧ StateAt 52 wr w2.heap.size (parsed p0) (parsed p1) (parsed p2) 0 0) ∨ (i = .int .i64 4 ∧ StateAt 52 wr w2.heap.size (parsed p0) (parsed p1) (parsed p2) (parsed p3) 0) ∨ (i = .int .i64 5 ∧ StateAt 52 wr w2.heap.size (parsed p0) (parsed p1) (parsed p2) (parsed p3) (parsed p4))) ∧ Below w2.heap.size w2 wr) (fun i _ => 5 - (intOf i).toNat)
    case atStart => exact ⟨.inl ⟨rfl, A0⟩, BA⟩
    case round =>
      clear A0 BA
      obtain ⟨hst, hbel⟩ := hrel
      have RR := Lib.hid (R2.out.below hbel W2)
      have BB := Lib.hid hbel
      rcases hst with ⟨rfl, hst⟩ | ⟨rfl, hst⟩ | ⟨rfl, hst⟩ | ⟨rfl, hst⟩ | ⟨rfl, hst⟩ | ⟨rfl, hst⟩
      · have hq := (hbel.cell (p := ⟨bp, 0, none⟩) (World.block_lt_of_cell? _ _ Q0.out)).trans Q0.out
        have HST := Lib.hid hst
        clear hst hbel
        go_wp2_with (go_at_call 32; refine (parseInt_any p0 _ RR.out HS0.out).mono ?_; rintro e w3 ⟨b3, he⟩; have Y := HST.out.below b3 HST.out.lt; have dst := Y.c0; have hfz := Y.f 0; have H := Lib.hid (Y.set0 (parsed p0)); have b4 := below_step BB.out BB.out.size b3; have B3 := Lib.hid (b4.setCell (p := ⟨w2.heap.size, 0, none⟩) (Nat.le_refl _) (.int .i64 (parsed p0))); have Z := ZB.out.below b4 ZB.out.lt; have ZZ := Lib.hid Z; have B4 := Lib.hid (below_two B2.out b4); have c0 := Z.c0; have c1 := Z.c1; have c2 := Z.c2; have c3 := Z.c3; have c4 := Z.c4; have f0 := Z.f 0; have f1 := Z.f 1; have f2 := Z.f 2; have f3 := Z.f 3; have f4 := Z.f 4; clear Z Y b3 b4; rcases he with rfl | ⟨hno, n, te, pv, rfl⟩; rotate_left; have HNO := Lib.hid hno; clear hno; rotate_left)
        · go_roundw
          case rel => exact ⟨.inr (.inl ⟨by go_num, H.out⟩), B3.out⟩
          case measure => simp [intOf]
        · have hnone : o = none := HB.out p0 (by simp) HNO.out
          subst hnone
          clear dst hfz
          clear c0 c1 c2 c3 c4 f0 f1 f2 f3 f4
          change bodyPost _ _ _ _ _ (setFive w3 w.heap.size 0 0 0 0 0)
          have SF := StateAt.five ZZ.out 0 0 0 0 0
          have BF := below_two' B4.out (below_five (B := w.heap.size) (w := w3) (b := w.heap.size) (Nat.le_refl _) 0 0 0 0 0)
          generalize setFive w3 w.heap.size 0 0 0 0 0 = wz at SF BF ⊢
          have e0 := SF.c0
          have e1 := SF.c1
          have e2 := SF.c2
          have e3 := SF.c3
          have e4 := SF.c4
          exact bodyPost_ret (v := .tuple #[.agg #[.int .i64 0, .int .i64 0, .int .i64 0, .int .i64 0, .int .i64 0], .bool false]) (by simp [results, Tryd.results12, go_sem, e0, e1, e2, e3, e4]) rfl ⟨rfl, BF⟩
      · have hq := (hbel.cell (p := ⟨bp, 1, none⟩) (World.block_lt_of_cell? _ _ Q1.out)).trans Q1.out
        have HST := Lib.hid hst
        clear hst hbel
        go_wp2_with (go_at_call 32; refine (parseInt_any p1 _ RR.out HS1.out).mono ?_; rintro e w3 ⟨b3, he⟩; have Y := HST.out.below b3 HST.out.lt; have dst := Y.c1; have hfz := Y.f 1; have H := Lib.hid (Y.set1 (parsed p1)); have b4 := below_step BB.out BB.out.size b3; have B3 := Lib.hid (b4.setCell (p := ⟨w2.heap.size, 1, none⟩) (Nat.le_refl _) (.int .i64 (parsed p1))); have Z := ZB.out.below b4 ZB.out.lt; have ZZ := Lib.hid Z; have B4 := Lib.hid (below_two B2.out b4); have c0 := Z.c0; have c1 := Z.c1; have c2 := Z.c2; have c3 := Z.c3; have c4 := Z.c4; have f0 := Z.f 0; have f1 := Z.f 1; have f2 := Z.f 2; have f3 := Z.f 3; have f4 := Z.f 4; clear Z Y b3 b4; rcases he with rfl | ⟨hno, n, te, pv, rfl⟩; rotate_left; have HNO := Lib.hid hno; clear hno; rotate_left)
        · go_roundw
          case rel => exact ⟨.inr (.inr (.inl ⟨by go_num, H.out⟩)), B3.out⟩
          case measure => simp [intOf]
        · have hnone : o = none := HB.out p1 (by simp) HNO.out
          subst hnone
          clear dst hfz
          clear c0 c1 c2 c3 c4 f0 f1 f2 f3 f4
          change bodyPost _ _ _ _ _ (setFive w3 w.heap.size 0 0 0 0 0)
          have SF := StateAt.five ZZ.out 0 0 0 0 0
          have BF := below_two' B4.out (below_five (B := w.heap.size) (w := w3) (b := w.heap.size) (Nat.le_refl _) 0 0 0 0 0)
          generalize setFive w3 w.heap.size 0 0 0 0 0 = wz at SF BF ⊢
          have e0 := SF.c0
          have e1 := SF.c1
          have e2 := SF.c2
          have e3 := SF.c3
          have e4 := SF.c4
          exact bodyPost_ret (v := .tuple #[.agg #[.int .i64 0, .int .i64 0, .int .i64 0, .int .i64 0, .int .i64 0], .bool false]) (by simp [results, Tryd.results12, go_sem, e0, e1, e2, e3, e4]) rfl ⟨rfl, BF⟩
      · have hq := (hbel.cell (p := ⟨bp, 2, none⟩) (World.block_lt_of_cell? _ _ Q2.out)).trans Q2.out
        have HST := Lib.hid hst
        clear hst hbel
        go_wp2_with (go_at_call 32; refine (parseInt_any p2 _ RR.out HS2.out).mono ?_; rintro e w3 ⟨b3, he⟩; have Y := HST.out.below b3 HST.out.lt; have dst := Y.c2; have hfz := Y.f 2; have H := Lib.hid (Y.set2 (parsed p2)); have b4 := below_step BB.out BB.out.size b3; have B3 := Lib.hid (b4.setCell (p := ⟨w2.heap.size, 2, none⟩) (Nat.le_refl _) (.int .i64 (parsed p2))); have Z := ZB.out.below b4 ZB.out.lt; have ZZ := Lib.hid Z; have B4 := Lib.hid (below_two B2.out b4); have c0 := Z.c0; have c1 := Z.c1; have c2 := Z.c2; have c3 := Z.c3; have c4 := Z.c4; have f0 := Z.f 0; have f1 := Z.f 1; have f2 := Z.f 2; have f3 := Z.f 3; have f4 := Z.f 4; clear Z Y b3 b4; rcases he with rfl | ⟨hno, n, te, pv, rfl⟩; rotate_left; have HNO := Lib.hid hno; clear hno; rotate_left)
        · go_roundw
          case rel => exact ⟨.inr (.inr (.inr (.inl ⟨by go_num, H.out⟩))), B3.out⟩
          case measure => simp [intOf]
        · have hnone : o = none := HB.out p2 (by simp) HNO.out
          subst hnone
          clear dst hfz
          clear c0 c1 c2 c3 c4 f0 f1 f2 f3 f4
          change bodyPost _ _ _ _ _ (setFive w3 w.heap.size 0 0 0 0 0)
          have SF := StateAt.five ZZ.out 0 0 0 0 0
          have BF := below_two' B4.out (below_five (B := w.heap.size) (w := w3) (b := w.heap.size) (Nat.le_refl _) 0 0 0 0 0)
          generalize setFive w3 w.heap.size 0 0 0 0 0 = wz at SF BF ⊢
          have e0 := SF.c0
          have e1 := SF.c1
          have e2 := SF.c2
          have e3 := SF.c3
          have e4 := SF.c4
          exact bodyPost_ret (v := .tuple #[.agg #[.int .i64 0, .int .i64 0, .int .i64 0, .int .i64 0, .int .i64 0], .bool false]) (by simp [results, Tryd.results12, go_sem, e0, e1, e2, e3, e4]) rfl ⟨rfl, BF⟩
      · have hq := (hbel.cell (p := ⟨bp, 3, none⟩) (World.block_lt_of_cell? _ _ Q3.out)).trans Q3.out
        have HST := Lib.hid hst
        clear hst hbel
        go_wp2_with (go_at_call 32; refine (parseInt_any p3 _ RR.out HS3.out).mono ?_; rintro e w3 ⟨b3, he⟩; have Y := HST.out.below b3 HST.out.lt; have dst := Y.c3; have hfz := Y.f 3; have H := Lib.hid (Y.set3 (parsed p3)); have b4 := below_step BB.out BB.out.size b3; have B3 := Lib.hid (b4.setCell (p := ⟨w2.heap.size, 3, none⟩) (Nat.le_refl _) (.int .i64 (parsed p3))); have Z := ZB.out.below b4 ZB.out.lt; have ZZ := Lib.hid Z; have B4 := Lib.hid (below_two B2.out b4); have c0 := Z.c0; have c1 := Z.c1; have c2 := Z.c2; have c3 := Z.c3; have c4 := Z.c4; have f0 := Z.f 0; have f1 := Z.f 1; have f2 := Z.f 2; have f3 := Z.f 3; have f4 := Z.f 4; clear Z Y b3 b4; rcases he with rfl | ⟨hno, n, te, pv, rfl⟩; rotate_left; have HNO := Lib.hid hno; clear hno; rotate_left)
        · go_roundw
          case rel => exact ⟨.inr (.inr (.inr (.inr (.inl ⟨by go_num, H.out⟩)))), B3.out⟩
          case measure => simp [intOf]
        · have hnone : o = none := HB.out p3 (by simp) HNO.out
          subst hnone
          clear dst hfz
          clear c0 c1 c2 c3 c4 f0 f1 f2 f3 f4
          change bodyPost _ _ _ _ _ (setFive w3 w.heap.size 0 0 0 0 0)
          have SF := StateAt.five ZZ.out 0 0 0 0 0
          have BF := below_two' B4.out (below_five (B := w.heap.size) (w := w3) (b := w.heap.size) (Nat.le_refl _) 0 0 0 0 0)
          generalize setFive w3 w.heap.size 0 0 0 0 0 = wz at SF BF ⊢
          have e0 := SF.c0
          have e1 := SF.c1
          have e2 := SF.c2
          have e3 := SF.c3
          have e4 := SF.c4
          exact bodyPost_ret (v := .tuple #[.agg #[.int .i64 0, .int .i64 0, .int .i64 0, .int .i64 0, .int .i64 0], .bool false]) (by simp [results, Tryd.results12, go_sem, e0, e1, e2, e3, e4]) rfl ⟨rfl, BF⟩
      · have hq := (hbel.cell (p := ⟨bp, 4, none⟩) (World.block_lt_of_cell? _ _ Q4.out)).trans Q4.out
        have HST := Lib.hid hst
        clear hst hbel
        go_wp2_with (go_at_call 32; refine (parseInt_any p4 _ RR.out HS4.out).mono ?_; rintro e w3 ⟨b3, he⟩; have Y := HST.out.below b3 HST.out.lt; have dst := Y.c4; have hfz := Y.f 4; have H := Lib.hid (Y.set4 (parsed p4)); have b4 := below_step BB.out BB.out.size b3; have B3 := Lib.hid (b4.setCell (p := ⟨w2.heap.size, 4, none⟩) (Nat.le_refl _) (.int .i64 (parsed p4))); have Z := ZB.out.below b4 ZB.out.lt; have ZZ := Lib.hid Z; have B4 := Lib.hid (below_two B2.out b4); have c0 := Z.c0; have c1 := Z.c1; have c2 := Z.c2; have c3 := Z.c3; have c4 := Z.c4; have f0 := Z.f 0; have f1 := Z.f 1; have f2 := Z.f 2; have f3 := Z.f 3; have f4 := Z.f 4; clear Z Y b3 b4; rcases he with rfl | ⟨hno, n, te, pv, rfl⟩; rotate_left; have HNO := Lib.hid hno; clear hno; rotate_left)
        · go_roundw
          case rel => exact ⟨.inr (.inr (.inr (.inr (.inr (⟨by go_num, H.out⟩))))), B3.out⟩
          case measure => simp [intOf]
        · have hnone : o = none := HB.out p4 (by simp) HNO.out
          subst hnone
          clear dst hfz
          clear c0 c1 c2 c3 c4 f0 f1 f2 f3 f4
          change bodyPost _ _ _ _ _ (setFive w3 w.heap.size 0 0 0 0 0)
          have SF := StateAt.five ZZ.out 0 0 0 0 0
          have BF := below_two' B4.out (below_five (B := w.heap.size) (w := w3) (b := w.heap.size) (Nat.le_refl _) 0 0 0 0 0)
          generalize setFive w3 w.heap.size 0 0 0 0 0 = wz at SF BF ⊢
          have e0 := SF.c0
          have e1 := SF.c1
          have e2 := SF.c2
          have e3 := SF.c3
          have e4 := SF.c4
          exact bodyPost_ret (v := .tuple #[.agg #[.int .i64 0, .int .i64 0, .int .i64 0, .int .i64 0, .int .i64 0], .bool false]) (by simp [results, Tryd.results12, go_sem, e0, e1, e2, e3, e4]) rfl ⟨rfl, BF⟩
      · have d0 := hst.c0; have d1 := hst.c1; have d2 := hst.c2; have d3 := hst.c3; have d4 := hst.c4
        clear hst hbel
        obtain ⟨x0, hx0⟩ : ∃ x, parsed p0 = x := ⟨_, rfl⟩
        obtain ⟨x1, hx1⟩ : ∃ x, parsed p1 = x := ⟨_, rfl⟩
        obtain ⟨x2, hx2⟩ : ∃ x, parsed p2 = x := ⟨_, rfl⟩
        obtain ⟨x3, hx3⟩ : ∃ x, parsed p3 = x := ⟨_, rfl⟩
        obtain ⟨x4, hx4⟩ : ∃ x, parsed p4 = x := ⟨_, rfl⟩
        rw [hx0] at d0; rw [hx1] at d1; rw [hx2] at d2; rw [hx3] at d3; rw [hx4] at d4
        have hC := HC.out
        rw [hx0, hx1, hx2, hx3, hx4] at hC
        clear hx0 hx1 hx2 hx3 hx4
        cases hte : (textStr x0 x1 x2 x3 x4).toList == s.toList
        · have hnone : o = none := by rw [hC, hte]; rfl
          subst hnone
          have hne : ((textStr x0 x1 x2 x3 x4).toList != s.toList) = true := by unfold bne; rw [hte]; rfl
          clear hC
          go_wp2_with fail
          refine (stateText_any _ _ _ _ _ _ (RR.out.1.below (below_one_box _ _) (by have := BB.out.size; omega))).mono ?_
          rintro e w4 ⟨rfl, b4⟩
          have b5 := below_step BB.out BB.out.size (below_box b4)
          have Z := ZB.out.below b5 ZB.out.lt
          have ZZ := Lib.hid Z
          have B4 := Lib.hid (below_two B2.out b5)
          have c0 := Z.c0; have c1 := Z.c1; have c2 := Z.c2; have c3 := Z.c3; have c4 := Z.c4; have f0 := Z.f 0; have f1 := Z.f 1; have f2 := Z.f 2; have f3 := Z.f 3; have f4 := Z.f 4
          have Y := state_new b4
          have k0 := Y.c0; have k1 := Y.c1; have k2 := Y.c2; have k3 := Y.c3; have k4 := Y.c4
          clear Z b4 b5 Y
          go_wp2_with fail
          clear k0 k1 k2 k3 k4
          clear c0 c1 c2 c3 c4 f0 f1 f2 f3 f4
          change bodyPost _ _ _ _ _ (setFive w4 w.heap.size 0 0 0 0 0)
          have SF := StateAt.five ZZ.out 0 0 0 0 0
          have BF := below_two' B4.out (below_five (B := w.heap.size) (w := w4) (b := w.heap.size) (Nat.le_refl _) 0 0 0 0 0)
          generalize setFive w4 w.heap.size 0 0 0 0 0 = wz at SF BF ⊢
          have e0 := SF.c0
          have e1 := SF.c1
          have e2 := SF.c2
          have e3 := SF.c3
          have e4 := SF.c4
          exact bodyPost_ret (v := .tuple #[.agg #[.int .i64 0, .int .i64 0, .int .i64 0, .int .i64 0, .int .i64 0], .bool false]) (by simp [results, Tryd.results12, go_sem, e0, e1, e2, e3, e4]) rfl ⟨rfl, BF⟩
        · have hnone : o = some (x0, x1, x2, x3, x4) := by rw [hC, hte]; rfl
          subst hnone
          have hne : ((textStr x0 x1 x2 x3 x4).toList != s.toList) = false := by unfold bne; rw [hte]; rfl
          clear hC
          go_wp2_with fail
          refine (stateText_any _ _ _ _ _ _ (RR.out.1.below (below_one_box _ _) (by have := BB.out.size; omega))).mono ?_
          rintro e w4 ⟨rfl, b4⟩
          have b5 := below_step BB.out BB.out.size (below_box b4)
          have Z := ZB.out.below b5 ZB.out.lt
          have ZZ := Lib.hid Z
          have B4 := Lib.hid (below_two B2.out b5)
          have c0 := Z.c0; have c1 := Z.c1; have c2 := Z.c2; have c3 := Z.c3; have c4 := Z.c4; have f0 := Z.f 0; have f1 := Z.f 1; have f2 := Z.f 2; have f3 := Z.f 3; have f4 := Z.f 4
          have Y := state_new b4
          have k0 := Y.c0; have k1 := Y.c1; have k2 := Y.c2; have k3 := Y.c3; have k4 := Y.c4
          clear Z b4 b5 Y
          go_wp2_with fail
          clear k0 k1 k2 k3 k4
          clear c0 c1 c2 c3 c4 f0 f1 f2 f3 f4
          change bodyPost _ _ _ _ _ (setFive w4 w.heap.size x0 x1 x2 x3 x4)
          have SF := StateAt.five ZZ.out x0 x1 x2 x3 x4
          have BF := below_two' B4.out (below_five (B := w.heap.size) (w := w4) (b := w.heap.size) (Nat.le_refl _) x0 x1 x2 x3 x4)
          generalize setFive w4 w.heap.size x0 x1 x2 x3 x4 = wz at SF BF ⊢
          have e0 := SF.c0
          have e1 := SF.c1
          have e2 := SF.c2
          have e3 := SF.c3
          have e4 := SF.c4
          exact bodyPost_ret (v := .tuple #[.agg #[.int .i64 x0, .int .i64 x1, .int .i64 x2, .int .i64 x3, .int .i64 x4], .bool true]) (by simp [results, Tryd.results12, go_sem, e0, e1, e2, e3, e4]) rfl ⟨rfl, BF⟩
  · have hnone : o = none := by rw [← HO.out]; exact read_A hl
    subst hnone
    have HL := Lib.hid hl; clear hl
    go_enter Tryd.func12, Tryd.ntmps12
    go_wp2_with (go_at_call 31; refine (splitN_other s _ HR.out hn HL.out).mono ?_; rintro e w2 ⟨bp, n, cap, rfl, hne, b2⟩; have Z := state_new b2; have ZZ := Lib.hid Z; have c0 := Z.c0; have c1 := Z.c1; have c2 := Z.c2; have c3 := Z.c3; have c4 := Z.c4; have f0 := Z.f 0; have f1 := Z.f 1; have f2 := Z.f 2; have f3 := Z.f 3; have f4 := Z.f 4; clear Z; have B2 := Lib.hid (below_box b2); clear b2)
    clear c0 c1 c2 c3 c4 f0 f1 f2 f3 f4
    change bodyPost _ _ _ _ _ (setFive w2 w.heap.size 0 0 0 0 0)
    have SF := StateAt.five ZZ.out 0 0 0 0 0
    have BF := below_two' B2.out (below_five (B := w.heap.size) (w := w2) (b := w.heap.size) (Nat.le_refl _) 0 0 0 0 0)
    generalize setFive w2 w.heap.size 0 0 0 0 0 = wz at SF BF ⊢
    have e0 := SF.c0
    have e1 := SF.c1
    have e2 := SF.c2
    have e3 := SF.c3
    have e4 := SF.c4
    exact bodyPost_ret (v := .tuple #[.agg #[.int .i64 0, .int .i64 0, .int .i64 0, .int .i64 0, .int .i64 0], .bool false]) (by simp [results, Tryd.results12, go_sem, e0, e1, e2, e3, e4]) rfl ⟨rfl, BF⟩
end Go.Proofs.YtkidhilipeoliaaDoor
