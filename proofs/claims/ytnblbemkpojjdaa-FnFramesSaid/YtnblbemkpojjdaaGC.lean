/-
  Chapter 6: readBody, and what stands in memory while a frame is read.
-/
import Derived.Test.YtnblbemkpojjdaaGB
import Derived.Deep.RegionHeld3
namespace Go.Proofs.Ytnblbemkpojjdaa
open Go.RowKit

/-- While a frame is read: the block of the result, still the zero value; the frame so far in the next block; its data a slice of the call's own. -/
structure ReadSt (w wi : World) (a q t m r s k : Int) (v : Value) (xs : List Int) : Prop where
  res : FrameAt 28 wi w.heap.size 0 0 0 0 0 0 0 (.slice none 0 0)
  var : FrameAt 28 wi (w.heap.size + 1) a q t m r s k v
  below : Below w.heap.size w wi
  own : Own 2 wi (w.heap.size + 1 + 1) v xs
section
variable {w wi wj : World} {a q t m r s k : Int} {v : Value} {xs : List Int}
theorem ReadSt.call (h : ReadSt w wi a q t m r s k v xs) (b : Below wi.heap.size wi wj) : ReadSt w wj a q t m r s k v xs := ⟨h.res.below b h.res.lt, h.var.below b h.var.lt, below_two h.below b, h.own.below b⟩
theorem ReadSt.size (h : ReadSt w wi a q t m r s k v xs) : w.heap.size + 1 + 1 ≤ wi.heap.size := h.var.lt
theorem ReadSt.le (h : ReadSt w wi a q t m r s k v xs) : w.heap.size ≤ wi.heap.size := by have := h.size; omega
/-- A step that leaves alone all up to the two blocks, ahead of the data. -/
theorem ReadSt.app (h : ReadSt w wi a q t m r s k (.slice none 0 0) []) (b : Below (w.heap.size + 1 + 1) wi wj) : ReadSt w wj a q t m r s k (.slice none 0 0) [] :=
  ⟨h.res.below b (by omega), h.var.below b (by omega), h.below.trans (b.mono (by omega)), Own.nil_⟩
theorem ReadSt.five (h : ReadSt w wi a q t m r s k v xs) (t' m' r' s' k' : Int) : ReadSt w (setFiveAt wi (w.heap.size + 1) 2 t' m' r' s' k') a q t' m' r' s' k' v xs :=
  ⟨h.res.otherFive (by omega) 2 t' m' r' s' k', h.var.fiveAt t' m' r' s' k', h.below.trans (below_fiveAt (by omega) t' m' r' s' k'), h.own.awayFive (by omega) 2 t' m' r' s' k'⟩
theorem ReadSt.data {v' : Value} {xs' : List Int} (h : ReadSt w wi a q t m r s k v xs) (o : Own 2 wi (w.heap.size + 1 + 1) v' xs') : ReadSt w (wi.setCell ⟨w.heap.size + 1, 7, none⟩ v') a q t m r s k v' xs' :=
  ⟨h.res.other (by omega), h.var.set7 v', h.below.trans ((Below.refl w.heap.size wi).setCell (p := ⟨w.heap.size + 1, 7, none⟩) (by simp) v'), o.away (by omega) 7 v'⟩
/-- The result is stored. -/
theorem ReadSt.fin (h : ReadSt w wi a q t m r s k v xs) (a' q' t' m' r' s' k' : Int) (v' : Value) : FrameAt 28 (setEight wi w.heap.size a' q' t' m' r' s' k' v') w.heap.size a' q' t' m' r' s' k' v' ∧ Below w.heap.size w (setEight wi w.heap.size a' q' t' m' r' s' k' v') ∧ Own 2 (setEight wi w.heap.size a' q' t' m' r' s' k' v') w.heap.size v xs :=
  ⟨h.res.eight a' q' t' m' r' s' k' v', h.below.trans (below_eight (Nat.le_refl _) a' q' t' m' r' s' k' v'), (h.own.awayEight (by omega) a' q' t' m' r' s' k' v').more (by omega)⟩
end
theorem ReadSt.start (w : World) (n : Nat) (a q : Int) : ReadSt w (((w.alloc (.cells #[.int .i64 0, .int .i64 0, .int .i64 0, .int .i64 0, .int .i64 0, .int .i64 0, .int .i64 0, .slice none 0 0] 28)).drewN n).alloc (.cells #[.int .i64 a, .int .i64 q, .int .i64 0, .int .i64 0, .int .i64 0, .int .i64 0, .int .i64 0, .slice none 0 0] 28)) a q 0 0 0 0 0 (.slice none 0 0) [] := by
  have e1 : ((w.alloc (.cells #[.int .i64 0, .int .i64 0, .int .i64 0, .int .i64 0, .int .i64 0, .int .i64 0, .int .i64 0, .slice none 0 0] 28)).drewN n).heap.size = w.heap.size + 1 := by simp [World.drewN]
  have r0 : FrameAt 28 ((w.alloc (.cells #[.int .i64 0, .int .i64 0, .int .i64 0, .int .i64 0, .int .i64 0, .int .i64 0, .int .i64 0, .slice none 0 0] 28)).drewN n) w.heap.size 0 0 0 0 0 0 0 (.slice none 0 0) := FrameAt.new w
  have b1 : Below ((w.alloc (.cells #[.int .i64 0, .int .i64 0, .int .i64 0, .int .i64 0, .int .i64 0, .int .i64 0, .int .i64 0, .slice none 0 0] 28)).drewN n).heap.size ((w.alloc (.cells #[.int .i64 0, .int .i64 0, .int .i64 0, .int .i64 0, .int .i64 0, .int .i64 0, .int .i64 0, .slice none 0 0] 28)).drewN n) (((w.alloc (.cells #[.int .i64 0, .int .i64 0, .int .i64 0, .int .i64 0, .int .i64 0, .int .i64 0, .int .i64 0, .slice none 0 0] 28)).drewN n).alloc (.cells #[.int .i64 a, .int .i64 q, .int .i64 0, .int .i64 0, .int .i64 0, .int .i64 0, .int .i64 0, .slice none 0 0] 28)) := (Below.refl _ _).alloc (Nat.le_refl _) _
  have v0 : FrameAt 28 (((w.alloc (.cells #[.int .i64 0, .int .i64 0, .int .i64 0, .int .i64 0, .int .i64 0, .int .i64 0, .int .i64 0, .slice none 0 0] 28)).drewN n).alloc (.cells #[.int .i64 a, .int .i64 q, .int .i64 0, .int .i64 0, .int .i64 0, .int .i64 0, .int .i64 0, .slice none 0 0] 28)) ((w.alloc (.cells #[.int .i64 0, .int .i64 0, .int .i64 0, .int .i64 0, .int .i64 0, .int .i64 0, .int .i64 0, .slice none 0 0] 28)).drewN n).heap.size a q 0 0 0 0 0 (.slice none 0 0) := FrameAt.new _
  rw [e1] at v0
  exact ⟨r0.below b1 r0.lt, v0, (below_drewN' ((Below.refl _ _).alloc (Nat.le_refl _) _) n).trans (b1.mono (by rw [e1]; omega)), Own.nil_⟩
theorem head_and (h : Int) : bits .and .i64 (h / 8) 7 = h / 8 % 8 := by
  have h2 : (BitVec.ofInt 64 7).toNat = 2 ^ 3 - 1 := by decide
  have key : (BitVec.ofInt 64 (h / 8) &&& BitVec.ofInt 64 7).toNat = ((h / 8) % ((2 ^ 64 : Nat) : Int)).toNat % 2 ^ 3 := by
    rw [BitVec.toNat_and, BitVec.toNat_ofInt, h2, Nat.and_two_pow_sub_one_eq_mod]
  show IntKind.i64.wrap ((BitVec.ofInt 64 (h / 8) &&& BitVec.ofInt 64 7).toNat : Nat) = h / 8 % 8
  rw [key, IntKind.wrap_i64]
  omega

set_option maxHeartbeats 1000000 in
set_option maxRecDepth 100000 in
set_option linter.unusedVariables false in
theorem rd11_0 (b off e n : Nat) (w : World) (h a q y0 y1 y2 y3 y4 : Int) (d : List Int) (hb : b < w.heap.size) (hc : w.cell? ⟨b, off, none⟩ = some (.int .i64 h)) (hcap : d.length + 10 ≤ e + 9) (hcap2 : e + 9 ≤ 9223372036854775807) (hK : h / 64 = a) (hQ : h / 8 % 8 = q) (hx : hasState a = true) (hy : hasData a = true) (hce : ¬ e = 1) (hdl : d.length ≤ 1024)
    (hst : ∀ W c, Below w.heap.size w W → Calls Try.prog 75 #[.slice (some ⟨b, off + 1, none⟩) 8 c] W (GivesState W y0 y1 y2 y3 y4)) (hd : ∀ W o', Below w.heap.size w W → (o' = off + 10 ∨ d = []) → Rd W (some ⟨b, o', none⟩) d.length d) :
    Calls Try.prog 53 #[.slice (some ⟨b, off, none⟩) (d.length + 10) (e + 9)] w (GivesFB w ⟨a, q, y0, y1, y2, y3, y4, d⟩ (.bool true)) := by
  have hand := head_and h
  rw [hQ] at hand
  have HX := Lib.hid hx; have HY := Lib.hid hy; have HST := Lib.hid hst; clear hst; have HD := Lib.hid hd; clear hd
  clear hx hy hQ
  go_enter Try.func53, Try.ntmps53
  go_upto_region 3 with fail
  go_quiet (fail)
  go_wp2_with fail
  refine (hasStateAndData_any _ _).mono ?_
  rintro e w1' ⟨rfl, rfl⟩
  rw [HX.out, HY.out]
  have S1 := Lib.hid (ReadSt.start w nq a q)
  generalize (((w.alloc (.cells #[.int .i64 0, .int .i64 0, .int .i64 0, .int .i64 0, .int .i64 0, .int .i64 0, .int .i64 0, .slice none 0 0] 28)).drewN nq).alloc (.cells #[.int .i64 a, .int .i64 q, .int .i64 0, .int .i64 0, .int .i64 0, .int .i64 0, .int .i64 0, .slice none 0 0] 28)) = w1 at S1 ⊢
  go_upto_region 9 with fail
  have q1 : (8 : Int) ≤ (e : Int) + 8 := by omega
  have S2 := Lib.hid (S1.out.call (Below.drew (Below.refl w1.heap.size w1)))
  go_region_held3 (fun _ => True) (trivial) (first | (go_at_call 75; (with_reducible refine (HST.out _ _ S2.out.below).mono ?_); rintro e w3 ⟨rfl, b3⟩; have S3 := Lib.hid (S2.out.call b3); clear b3; have c2 := S3.out.var.c2; have c3 := S3.out.var.c3; have c4 := S3.out.var.c4; have c5 := S3.out.var.c5; have c6 := S3.out.var.c6; have f2 := S3.out.var.f 2; have f3 := S3.out.var.f 3; have f4 := S3.out.var.f 4; have f5 := S3.out.var.f 5; have f6 := S3.out.var.f 6))
  clear c2 c3 c4 c5 c6 f2 f3 f4 f5 f6
  change Exit.then _ _ _ _ (setFiveAt w3 (w.heap.size + 1) 2 y0 y1 y2 y3 y4)
  have S4 := Lib.hid (S3.out.five y0 y1 y2 y3 y4)
  generalize setFiveAt w3 (w.heap.size + 1) 2 y0 y1 y2 y3 y4 = w4 at S4 ⊢
  clear S1 S2 S3
  go_upto_region 14 with (at_builtin; refine append_list _ rfl (.tmp 46) (.tmp 48) rfl (w.heap.size + 1 + 1) Try.underlying26 info64 _ [] rfl (Own.of_alloc_nil S4.out.size) _ _ _ d rfl (HD.out _ _ (S4.out.below.alloc S4.out.le _) (.inl (by omega))) (by simp; omega) (by have := S4.out.size; simp; omega) ?_; intro v5 w5 o5 b5; have S5 := Lib.hid ((S4.out.call ((Below.refl _ _).alloc (Nat.le_refl _) _)).app b5); obtain ⟨p5, cp5, rfl, o5', -⟩ := o5.get; have O5 := Lib.hid o5'; clear o5 o5' b5; have g7 := S5.out.var.c7; have gf := S5.out.var.f 7)
  clear g7 gf
  have S6 := Lib.hid (S5.out.data O5.out)
  rw [List.nil_append] at S6
  generalize World.setCell w5 ⟨w.heap.size + 1, 7, none⟩ _ = w6 at S6 ⊢
  have c0 := S6.out.var.c0
  have c1 := S6.out.var.c1
  have c2 := S6.out.var.c2
  have c3 := S6.out.var.c3
  have c4 := S6.out.var.c4
  have c5 := S6.out.var.c5
  have c6 := S6.out.var.c6
  have c7 := S6.out.var.c7
  have d0 := S6.out.res.c0
  have d1 := S6.out.res.c1
  have d2 := S6.out.res.c2
  have d3 := S6.out.res.c3
  have d4 := S6.out.res.c4
  have d5 := S6.out.res.c5
  have d6 := S6.out.res.c6
  have d7 := S6.out.res.c7
  have f0 := S6.out.res.f 0
  have f1 := S6.out.res.f 1
  have f2 := S6.out.res.f 2
  have f3 := S6.out.res.f 3
  have f4 := S6.out.res.f 4
  have f5 := S6.out.res.f 5
  have f6 := S6.out.res.f 6
  have f7 := S6.out.res.f 7
  go_wp2_with fail
  clear c0 c1 c2 c3 c4 c5 c6 c7
  clear d0 d1 d2 d3 d4 d5 d6 d7 f0 f1 f2 f3 f4 f5 f6 f7
  change bodyPost _ _ _ _ _ (setEight w6 w.heap.size a q y0 y1 y2 y3 y4 (.slice p5 d.length cp5))
  obtain ⟨SF, BF, OF⟩ := S6.out.fin a q y0 y1 y2 y3 y4 (.slice p5 d.length cp5)
  generalize setEight w6 w.heap.size a q y0 y1 y2 y3 y4 (.slice p5 d.length cp5) = wz at SF BF OF ⊢
  have e0 := SF.c0
  have e1 := SF.c1
  have e2 := SF.c2
  have e3 := SF.c3
  have e4 := SF.c4
  have e5 := SF.c5
  have e6 := SF.c6
  have e7 := SF.c7
  exact bodyPost_ret (v := .tuple #[.agg #[.int .i64 a, .int .i64 q, .int .i64 y0, .int .i64 y1, .int .i64 y2, .int .i64 y3, .int .i64 y4, .slice p5 d.length cp5], .bool true]) (by simp [results, Try.results53, go_sem, e0, e1, e2, e3, e4, e5, e6, e7]) rfl ⟨_, _, rfl, OF, BF⟩
set_option maxHeartbeats 1000000 in
set_option maxRecDepth 100000 in
set_option linter.unusedVariables false in
theorem rd11_1 (b off e n : Nat) (w : World) (h a q y0 y1 y2 y3 y4 : Int) (d : List Int) (hb : b < w.heap.size) (hc : w.cell? ⟨b, off, none⟩ = some (.int .i64 h)) (hcap : d.length + 10 ≤ 1 + 9) (hcap2 : 1 + 9 ≤ 9223372036854775807) (hK : h / 64 = a) (hQ : h / 8 % 8 = q) (hx : hasState a = true) (hy : hasData a = true) (hdl : d.length ≤ 1024)
    (hst : ∀ W c, Below w.heap.size w W → Calls Try.prog 75 #[.slice (some ⟨b, off + 1, none⟩) 8 c] W (GivesState W y0 y1 y2 y3 y4)) (hd : ∀ W o', Below w.heap.size w W → (o' = off + 10 ∨ d = []) → Rd W (some ⟨b, o', none⟩) d.length d) :
    Calls Try.prog 53 #[.slice (some ⟨b, off, none⟩) (d.length + 10) (1 + 9)] w (GivesFB w ⟨a, q, y0, y1, y2, y3, y4, d⟩ (.bool true)) := by
  have hand := head_and h
  rw [hQ] at hand
  have HX := Lib.hid hx; have HY := Lib.hid hy; have HST := Lib.hid hst; clear hst; have HD := Lib.hid hd; clear hd
  clear hx hy hQ
  go_enter Try.func53, Try.ntmps53
  go_upto_region 3 with fail
  go_quiet (fail)
  go_wp2_with fail
  refine (hasStateAndData_any _ _).mono ?_
  rintro e w1' ⟨rfl, rfl⟩
  rw [HX.out, HY.out]
  have S1 := Lib.hid (ReadSt.start w nq a q)
  generalize (((w.alloc (.cells #[.int .i64 0, .int .i64 0, .int .i64 0, .int .i64 0, .int .i64 0, .int .i64 0, .int .i64 0, .slice none 0 0] 28)).drewN nq).alloc (.cells #[.int .i64 a, .int .i64 q, .int .i64 0, .int .i64 0, .int .i64 0, .int .i64 0, .int .i64 0, .slice none 0 0] 28)) = w1 at S1 ⊢
  go_upto_region 9 with fail
  have q1 : (8 : Int) ≤ (1 : Int) + 8 := by omega
  have S2 := Lib.hid (S1.out.call (Below.drew (Below.refl w1.heap.size w1)))
  go_region_held3 (fun _ => True) (trivial) (first | (go_at_call 75; (with_reducible refine (HST.out _ _ S2.out.below).mono ?_); rintro e w3 ⟨rfl, b3⟩; have S3 := Lib.hid (S2.out.call b3); clear b3; have c2 := S3.out.var.c2; have c3 := S3.out.var.c3; have c4 := S3.out.var.c4; have c5 := S3.out.var.c5; have c6 := S3.out.var.c6; have f2 := S3.out.var.f 2; have f3 := S3.out.var.f 3; have f4 := S3.out.var.f 4; have f5 := S3.out.var.f 5; have f6 := S3.out.var.f 6))
  clear c2 c3 c4 c5 c6 f2 f3 f4 f5 f6
  change Exit.then _ _ _ _ (setFiveAt w3 (w.heap.size + 1) 2 y0 y1 y2 y3 y4)
  have S4 := Lib.hid (S3.out.five y0 y1 y2 y3 y4)
  generalize setFiveAt w3 (w.heap.size + 1) 2 y0 y1 y2 y3 y4 = w4 at S4 ⊢
  clear S1 S2 S3
  go_upto_region 14 with (at_builtin; refine append_list _ rfl (.tmp 46) (.tmp 48) rfl (w.heap.size + 1 + 1) Try.underlying26 info64 _ [] rfl (Own.of_alloc_nil S4.out.size) _ _ _ d rfl (HD.out _ _ (S4.out.below.alloc S4.out.le _) (.inr (List.length_eq_zero_iff.1 (by omega)))) (by simp; omega) (by have := S4.out.size; simp; omega) ?_; intro v5 w5 o5 b5; have S5 := Lib.hid ((S4.out.call ((Below.refl _ _).alloc (Nat.le_refl _) _)).app b5); obtain ⟨p5, cp5, rfl, o5', -⟩ := o5.get; have O5 := Lib.hid o5'; clear o5 o5' b5; have g7 := S5.out.var.c7; have gf := S5.out.var.f 7)
  clear g7 gf
  have S6 := Lib.hid (S5.out.data O5.out)
  rw [List.nil_append] at S6
  generalize World.setCell w5 ⟨w.heap.size + 1, 7, none⟩ _ = w6 at S6 ⊢
  have c0 := S6.out.var.c0
  have c1 := S6.out.var.c1
  have c2 := S6.out.var.c2
  have c3 := S6.out.var.c3
  have c4 := S6.out.var.c4
  have c5 := S6.out.var.c5
  have c6 := S6.out.var.c6
  have c7 := S6.out.var.c7
  have d0 := S6.out.res.c0
  have d1 := S6.out.res.c1
  have d2 := S6.out.res.c2
  have d3 := S6.out.res.c3
  have d4 := S6.out.res.c4
  have d5 := S6.out.res.c5
  have d6 := S6.out.res.c6
  have d7 := S6.out.res.c7
  have f0 := S6.out.res.f 0
  have f1 := S6.out.res.f 1
  have f2 := S6.out.res.f 2
  have f3 := S6.out.res.f 3
  have f4 := S6.out.res.f 4
  have f5 := S6.out.res.f 5
  have f6 := S6.out.res.f 6
  have f7 := S6.out.res.f 7
  go_wp2_with fail
  clear c0 c1 c2 c3 c4 c5 c6 c7
  clear d0 d1 d2 d3 d4 d5 d6 d7 f0 f1 f2 f3 f4 f5 f6 f7
  change bodyPost _ _ _ _ _ (setEight w6 w.heap.size a q y0 y1 y2 y3 y4 (.slice p5 d.length cp5))
  obtain ⟨SF, BF, OF⟩ := S6.out.fin a q y0 y1 y2 y3 y4 (.slice p5 d.length cp5)
  generalize setEight w6 w.heap.size a q y0 y1 y2 y3 y4 (.slice p5 d.length cp5) = wz at SF BF OF ⊢
  have e0 := SF.c0
  have e1 := SF.c1
  have e2 := SF.c2
  have e3 := SF.c3
  have e4 := SF.c4
  have e5 := SF.c5
  have e6 := SF.c6
  have e7 := SF.c7
  exact bodyPost_ret (v := .tuple #[.agg #[.int .i64 a, .int .i64 q, .int .i64 y0, .int .i64 y1, .int .i64 y2, .int .i64 y3, .int .i64 y4, .slice p5 d.length cp5], .bool true]) (by simp [results, Try.results53, go_sem, e0, e1, e2, e3, e4, e5, e6, e7]) rfl ⟨_, _, rfl, OF, BF⟩
set_option maxHeartbeats 1000000 in
set_option maxRecDepth 100000 in
set_option linter.unusedVariables false in
theorem rd11n_0 (b off e n : Nat) (w : World) (h a q y0 y1 y2 y3 y4 : Int) (d : List Int) (hb : b < w.heap.size) (hc : w.cell? ⟨b, off, none⟩ = some (.int .i64 h)) (hcap : 9 ≤ e + 9) (hcap2 : e + 9 ≤ 9223372036854775807) (hK : h / 64 = a) (hQ : h / 8 % 8 = q) (hx : hasState a = true) (hy : hasData a = true) (hce : ¬ e = 0)
    (hst : ∀ W c, Below w.heap.size w W → Calls Try.prog 75 #[.slice (some ⟨b, off + 1, none⟩) 8 c] W (GivesState W y0 y1 y2 y3 y4)) :
    Calls Try.prog 53 #[.slice (some ⟨b, off, none⟩) (9) (e + 9)] w (GivesFB w Fr.zero (.bool false)) := by
  have hand := head_and h
  rw [hQ] at hand
  have HX := Lib.hid hx; have HY := Lib.hid hy; have HST := Lib.hid hst; clear hst
  clear hx hy hQ
  go_enter Try.func53, Try.ntmps53
  go_upto_region 3 with fail
  go_quiet (fail)
  go_wp2_with fail
  refine (hasStateAndData_any _ _).mono ?_
  rintro e w1' ⟨rfl, rfl⟩
  rw [HX.out, HY.out]
  have S1 := Lib.hid (ReadSt.start w nq a q)
  generalize (((w.alloc (.cells #[.int .i64 0, .int .i64 0, .int .i64 0, .int .i64 0, .int .i64 0, .int .i64 0, .int .i64 0, .slice none 0 0] 28)).drewN nq).alloc (.cells #[.int .i64 a, .int .i64 q, .int .i64 0, .int .i64 0, .int .i64 0, .int .i64 0, .int .i64 0, .slice none 0 0] 28)) = w1 at S1 ⊢
  go_upto_region 9 with fail
  have q1 : (8 : Int) ≤ (e : Int) + 8 := by omega
  have S2 := Lib.hid (S1.out.call (Below.drew (Below.refl w1.heap.size w1)))
  go_region_held3 (fun _ => True) (trivial) (first | (go_at_call 75; (with_reducible refine (HST.out _ _ S2.out.below).mono ?_); rintro e w3 ⟨rfl, b3⟩; have S3 := Lib.hid (S2.out.call b3); clear b3; have c2 := S3.out.var.c2; have c3 := S3.out.var.c3; have c4 := S3.out.var.c4; have c5 := S3.out.var.c5; have c6 := S3.out.var.c6; have f2 := S3.out.var.f 2; have f3 := S3.out.var.f 3; have f4 := S3.out.var.f 4; have f5 := S3.out.var.f 5; have f6 := S3.out.var.f 6))
  clear c2 c3 c4 c5 c6 f2 f3 f4 f5 f6
  change Exit.then _ _ _ _ (setFiveAt w3 (w.heap.size + 1) 2 y0 y1 y2 y3 y4)
  have S4 := Lib.hid (S3.out.five y0 y1 y2 y3 y4)
  generalize setFiveAt w3 (w.heap.size + 1) 2 y0 y1 y2 y3 y4 = w4 at S4 ⊢
  clear S1 S2 S3
  have d0 := S4.out.res.c0
  have d1 := S4.out.res.c1
  have d2 := S4.out.res.c2
  have d3 := S4.out.res.c3
  have d4 := S4.out.res.c4
  have d5 := S4.out.res.c5
  have d6 := S4.out.res.c6
  have d7 := S4.out.res.c7
  have f0 := S4.out.res.f 0
  have f1 := S4.out.res.f 1
  have f2 := S4.out.res.f 2
  have f3 := S4.out.res.f 3
  have f4 := S4.out.res.f 4
  have f5 := S4.out.res.f 5
  have f6 := S4.out.res.f 6
  have f7 := S4.out.res.f 7
  go_wp2_with fail
  clear d0 d1 d2 d3 d4 d5 d6 d7 f0 f1 f2 f3 f4 f5 f6 f7
  change bodyPost _ _ _ _ _ (setEight w4 w.heap.size 0 0 0 0 0 0 0 (.slice none 0 0))
  obtain ⟨SF, BF, OF⟩ := S4.out.fin 0 0 0 0 0 0 0 (.slice none 0 0)
  generalize setEight w4 w.heap.size 0 0 0 0 0 0 0 (.slice none 0 0) = wz at SF BF OF ⊢
  have e0 := SF.c0
  have e1 := SF.c1
  have e2 := SF.c2
  have e3 := SF.c3
  have e4 := SF.c4
  have e5 := SF.c5
  have e6 := SF.c6
  have e7 := SF.c7
  exact bodyPost_ret (v := .tuple #[.agg #[.int .i64 0, .int .i64 0, .int .i64 0, .int .i64 0, .int .i64 0, .int .i64 0, .int .i64 0, .slice none 0 0], .bool false]) (by simp [results, Try.results53, go_sem, e0, e1, e2, e3, e4, e5, e6, e7]) rfl ⟨_, _, rfl, Own.nil_, BF⟩
set_option maxHeartbeats 1000000 in
set_option maxRecDepth 100000 in
set_option linter.unusedVariables false in
theorem rd11n_1 (b off e n : Nat) (w : World) (h a q y0 y1 y2 y3 y4 : Int) (d : List Int) (hb : b < w.heap.size) (hc : w.cell? ⟨b, off, none⟩ = some (.int .i64 h)) (hcap : 9 ≤ 0 + 9) (hcap2 : 0 + 9 ≤ 9223372036854775807) (hK : h / 64 = a) (hQ : h / 8 % 8 = q) (hx : hasState a = true) (hy : hasData a = true)
    (hst : ∀ W c, Below w.heap.size w W → Calls Try.prog 75 #[.slice (some ⟨b, off + 1, none⟩) 8 c] W (GivesState W y0 y1 y2 y3 y4)) :
    Calls Try.prog 53 #[.slice (some ⟨b, off, none⟩) (9) (0 + 9)] w (GivesFB w Fr.zero (.bool false)) := by
  have hand := head_and h
  rw [hQ] at hand
  have HX := Lib.hid hx; have HY := Lib.hid hy; have HST := Lib.hid hst; clear hst
  clear hx hy hQ
  go_enter Try.func53, Try.ntmps53
  go_upto_region 3 with fail
  go_quiet (fail)
  go_wp2_with fail
  refine (hasStateAndData_any _ _).mono ?_
  rintro e w1' ⟨rfl, rfl⟩
  rw [HX.out, HY.out]
  have S1 := Lib.hid (ReadSt.start w nq a q)
  generalize (((w.alloc (.cells #[.int .i64 0, .int .i64 0, .int .i64 0, .int .i64 0, .int .i64 0, .int .i64 0, .int .i64 0, .slice none 0 0] 28)).drewN nq).alloc (.cells #[.int .i64 a, .int .i64 q, .int .i64 0, .int .i64 0, .int .i64 0, .int .i64 0, .int .i64 0, .slice none 0 0] 28)) = w1 at S1 ⊢
  go_upto_region 9 with fail
  have q1 : (8 : Int) ≤ (0 : Int) + 8 := by omega
  have S2 := Lib.hid (S1.out.call (Below.drew (Below.refl w1.heap.size w1)))
  go_region_held3 (fun _ => True) (trivial) (first | (go_at_call 75; (with_reducible refine (HST.out _ _ S2.out.below).mono ?_); rintro e w3 ⟨rfl, b3⟩; have S3 := Lib.hid (S2.out.call b3); clear b3; have c2 := S3.out.var.c2; have c3 := S3.out.var.c3; have c4 := S3.out.var.c4; have c5 := S3.out.var.c5; have c6 := S3.out.var.c6; have f2 := S3.out.var.f 2; have f3 := S3.out.var.f 3; have f4 := S3.out.var.f 4; have f5 := S3.out.var.f 5; have f6 := S3.out.var.f 6))
  clear c2 c3 c4 c5 c6 f2 f3 f4 f5 f6
  change Exit.then _ _ _ _ (setFiveAt w3 (w.heap.size + 1) 2 y0 y1 y2 y3 y4)
  have S4 := Lib.hid (S3.out.five y0 y1 y2 y3 y4)
  generalize setFiveAt w3 (w.heap.size + 1) 2 y0 y1 y2 y3 y4 = w4 at S4 ⊢
  clear S1 S2 S3
  have d0 := S4.out.res.c0
  have d1 := S4.out.res.c1
  have d2 := S4.out.res.c2
  have d3 := S4.out.res.c3
  have d4 := S4.out.res.c4
  have d5 := S4.out.res.c5
  have d6 := S4.out.res.c6
  have d7 := S4.out.res.c7
  have f0 := S4.out.res.f 0
  have f1 := S4.out.res.f 1
  have f2 := S4.out.res.f 2
  have f3 := S4.out.res.f 3
  have f4 := S4.out.res.f 4
  have f5 := S4.out.res.f 5
  have f6 := S4.out.res.f 6
  have f7 := S4.out.res.f 7
  go_wp2_with fail
  clear d0 d1 d2 d3 d4 d5 d6 d7 f0 f1 f2 f3 f4 f5 f6 f7
  change bodyPost _ _ _ _ _ (setEight w4 w.heap.size 0 0 0 0 0 0 0 (.slice none 0 0))
  obtain ⟨SF, BF, OF⟩ := S4.out.fin 0 0 0 0 0 0 0 (.slice none 0 0)
  generalize setEight w4 w.heap.size 0 0 0 0 0 0 0 (.slice none 0 0) = wz at SF BF OF ⊢
  have e0 := SF.c0
  have e1 := SF.c1
  have e2 := SF.c2
  have e3 := SF.c3
  have e4 := SF.c4
  have e5 := SF.c5
  have e6 := SF.c6
  have e7 := SF.c7
  exact bodyPost_ret (v := .tuple #[.agg #[.int .i64 0, .int .i64 0, .int .i64 0, .int .i64 0, .int .i64 0, .int .i64 0, .int .i64 0, .slice none 0 0], .bool false]) (by simp [results, Try.results53, go_sem, e0, e1, e2, e3, e4, e5, e6, e7]) rfl ⟨_, _, rfl, Own.nil_, BF⟩
set_option maxHeartbeats 1000000 in
set_option maxRecDepth 100000 in
set_option linter.unusedVariables false in
theorem rd10_0 (b off e n : Nat) (w : World) (h a q y0 y1 y2 y3 y4 : Int) (d : List Int) (hb : b < w.heap.size) (hc : w.cell? ⟨b, off, none⟩ = some (.int .i64 h)) (hcap : n + 9 ≤ e + 9) (hcap2 : e + 9 ≤ 9223372036854775807) (hK : h / 64 = a) (hQ : h / 8 % 8 = q) (hx : hasState a = true) (hy : hasData a = false) (hce : ¬ e = 0)
    (hst : ∀ W c, Below w.heap.size w W → Calls Try.prog 75 #[.slice (some ⟨b, off + 1, none⟩) 8 c] W (GivesState W y0 y1 y2 y3 y4)) :
    Calls Try.prog 53 #[.slice (some ⟨b, off, none⟩) (n + 9) (e + 9)] w (GivesFB w ⟨a, q, y0, y1, y2, y3, y4, []⟩ (.bool true)) := by
  have hand := head_and h
  rw [hQ] at hand
  have HX := Lib.hid hx; have HY := Lib.hid hy; have HST := Lib.hid hst; clear hst
  clear hx hy hQ
  go_enter Try.func53, Try.ntmps53
  go_upto_region 3 with fail
  go_quiet (fail)
  go_wp2_with fail
  refine (hasStateAndData_any _ _).mono ?_
  rintro e w1' ⟨rfl, rfl⟩
  rw [HX.out, HY.out]
  have S1 := Lib.hid (ReadSt.start w nq a q)
  generalize (((w.alloc (.cells #[.int .i64 0, .int .i64 0, .int .i64 0, .int .i64 0, .int .i64 0, .int .i64 0, .int .i64 0, .slice none 0 0] 28)).drewN nq).alloc (.cells #[.int .i64 a, .int .i64 q, .int .i64 0, .int .i64 0, .int .i64 0, .int .i64 0, .int .i64 0, .slice none 0 0] 28)) = w1 at S1 ⊢
  go_upto_region 9 with fail
  have q1 : (8 : Int) ≤ (e : Int) + 8 := by omega
  have S2 := Lib.hid (S1.out.call (Below.drew (Below.refl w1.heap.size w1)))
  go_region_held3 (fun _ => True) (trivial) (first | (go_at_call 75; (with_reducible refine (HST.out _ _ S2.out.below).mono ?_); rintro e w3 ⟨rfl, b3⟩; have S3 := Lib.hid (S2.out.call b3); clear b3; have c2 := S3.out.var.c2; have c3 := S3.out.var.c3; have c4 := S3.out.var.c4; have c5 := S3.out.var.c5; have c6 := S3.out.var.c6; have f2 := S3.out.var.f 2; have f3 := S3.out.var.f 3; have f4 := S3.out.var.f 4; have f5 := S3.out.var.f 5; have f6 := S3.out.var.f 6))
  clear c2 c3 c4 c5 c6 f2 f3 f4 f5 f6
  change Exit.then _ _ _ _ (setFiveAt w3 (w.heap.size + 1) 2 y0 y1 y2 y3 y4)
  have S4 := Lib.hid (S3.out.five y0 y1 y2 y3 y4)
  generalize setFiveAt w3 (w.heap.size + 1) 2 y0 y1 y2 y3 y4 = w4 at S4 ⊢
  clear S1 S2 S3
  have c0 := S4.out.var.c0
  have c1 := S4.out.var.c1
  have c2 := S4.out.var.c2
  have c3 := S4.out.var.c3
  have c4 := S4.out.var.c4
  have c5 := S4.out.var.c5
  have c6 := S4.out.var.c6
  have c7 := S4.out.var.c7
  have d0 := S4.out.res.c0
  have d1 := S4.out.res.c1
  have d2 := S4.out.res.c2
  have d3 := S4.out.res.c3
  have d4 := S4.out.res.c4
  have d5 := S4.out.res.c5
  have d6 := S4.out.res.c6
  have d7 := S4.out.res.c7
  have f0 := S4.out.res.f 0
  have f1 := S4.out.res.f 1
  have f2 := S4.out.res.f 2
  have f3 := S4.out.res.f 3
  have f4 := S4.out.res.f 4
  have f5 := S4.out.res.f 5
  have f6 := S4.out.res.f 6
  have f7 := S4.out.res.f 7
  go_wp2_with fail
  clear c0 c1 c2 c3 c4 c5 c6 c7
  clear d0 d1 d2 d3 d4 d5 d6 d7 f0 f1 f2 f3 f4 f5 f6 f7
  change bodyPost _ _ _ _ _ (setEight w4 w.heap.size a q y0 y1 y2 y3 y4 (.slice none 0 0))
  obtain ⟨SF, BF, OF⟩ := S4.out.fin a q y0 y1 y2 y3 y4 (.slice none 0 0)
  generalize setEight w4 w.heap.size a q y0 y1 y2 y3 y4 (.slice none 0 0) = wz at SF BF OF ⊢
  have e0 := SF.c0
  have e1 := SF.c1
  have e2 := SF.c2
  have e3 := SF.c3
  have e4 := SF.c4
  have e5 := SF.c5
  have e6 := SF.c6
  have e7 := SF.c7
  exact bodyPost_ret (v := .tuple #[.agg #[.int .i64 a, .int .i64 q, .int .i64 y0, .int .i64 y1, .int .i64 y2, .int .i64 y3, .int .i64 y4, .slice none 0 0], .bool true]) (by simp [results, Try.results53, go_sem, e0, e1, e2, e3, e4, e5, e6, e7]) rfl ⟨_, _, rfl, OF, BF⟩
set_option maxHeartbeats 1000000 in
set_option maxRecDepth 100000 in
set_option linter.unusedVariables false in
theorem rd10_1 (b off e n : Nat) (w : World) (h a q y0 y1 y2 y3 y4 : Int) (d : List Int) (hb : b < w.heap.size) (hc : w.cell? ⟨b, off, none⟩ = some (.int .i64 h)) (hcap : n + 9 ≤ 0 + 9) (hcap2 : 0 + 9 ≤ 9223372036854775807) (hK : h / 64 = a) (hQ : h / 8 % 8 = q) (hx : hasState a = true) (hy : hasData a = false)
    (hst : ∀ W c, Below w.heap.size w W → Calls Try.prog 75 #[.slice (some ⟨b, off + 1, none⟩) 8 c] W (GivesState W y0 y1 y2 y3 y4)) :
    Calls Try.prog 53 #[.slice (some ⟨b, off, none⟩) (n + 9) (0 + 9)] w (GivesFB w ⟨a, q, y0, y1, y2, y3, y4, []⟩ (.bool true)) := by
  have hand := head_and h
  rw [hQ] at hand
  have HX := Lib.hid hx; have HY := Lib.hid hy; have HST := Lib.hid hst; clear hst
  clear hx hy hQ
  go_enter Try.func53, Try.ntmps53
  go_upto_region 3 with fail
  go_quiet (fail)
  go_wp2_with fail
  refine (hasStateAndData_any _ _).mono ?_
  rintro e w1' ⟨rfl, rfl⟩
  rw [HX.out, HY.out]
  have S1 := Lib.hid (ReadSt.start w nq a q)
  generalize (((w.alloc (.cells #[.int .i64 0, .int .i64 0, .int .i64 0, .int .i64 0, .int .i64 0, .int .i64 0, .int .i64 0, .slice none 0 0] 28)).drewN nq).alloc (.cells #[.int .i64 a, .int .i64 q, .int .i64 0, .int .i64 0, .int .i64 0, .int .i64 0, .int .i64 0, .slice none 0 0] 28)) = w1 at S1 ⊢
  go_upto_region 9 with fail
  have q1 : (8 : Int) ≤ (0 : Int) + 8 := by omega
  have S2 := Lib.hid (S1.out.call (Below.drew (Below.refl w1.heap.size w1)))
  go_region_held3 (fun _ => True) (trivial) (first | (go_at_call 75; (with_reducible refine (HST.out _ _ S2.out.below).mono ?_); rintro e w3 ⟨rfl, b3⟩; have S3 := Lib.hid (S2.out.call b3); clear b3; have c2 := S3.out.var.c2; have c3 := S3.out.var.c3; have c4 := S3.out.var.c4; have c5 := S3.out.var.c5; have c6 := S3.out.var.c6; have f2 := S3.out.var.f 2; have f3 := S3.out.var.f 3; have f4 := S3.out.var.f 4; have f5 := S3.out.var.f 5; have f6 := S3.out.var.f 6))
  clear c2 c3 c4 c5 c6 f2 f3 f4 f5 f6
  change Exit.then _ _ _ _ (setFiveAt w3 (w.heap.size + 1) 2 y0 y1 y2 y3 y4)
  have S4 := Lib.hid (S3.out.five y0 y1 y2 y3 y4)
  generalize setFiveAt w3 (w.heap.size + 1) 2 y0 y1 y2 y3 y4 = w4 at S4 ⊢
  clear S1 S2 S3
  have c0 := S4.out.var.c0
  have c1 := S4.out.var.c1
  have c2 := S4.out.var.c2
  have c3 := S4.out.var.c3
  have c4 := S4.out.var.c4
  have c5 := S4.out.var.c5
  have c6 := S4.out.var.c6
  have c7 := S4.out.var.c7
  have d0 := S4.out.res.c0
  have d1 := S4.out.res.c1
  have d2 := S4.out.res.c2
  have d3 := S4.out.res.c3
  have d4 := S4.out.res.c4
  have d5 := S4.out.res.c5
  have d6 := S4.out.res.c6
  have d7 := S4.out.res.c7
  have f0 := S4.out.res.f 0
  have f1 := S4.out.res.f 1
  have f2 := S4.out.res.f 2
  have f3 := S4.out.res.f 3
  have f4 := S4.out.res.f 4
  have f5 := S4.out.res.f 5
  have f6 := S4.out.res.f 6
  have f7 := S4.out.res.f 7
  go_wp2_with fail
  clear c0 c1 c2 c3 c4 c5 c6 c7
  clear d0 d1 d2 d3 d4 d5 d6 d7 f0 f1 f2 f3 f4 f5 f6 f7
  change bodyPost _ _ _ _ _ (setEight w4 w.heap.size a q y0 y1 y2 y3 y4 (.slice none 0 0))
  obtain ⟨SF, BF, OF⟩ := S4.out.fin a q y0 y1 y2 y3 y4 (.slice none 0 0)
  generalize setEight w4 w.heap.size a q y0 y1 y2 y3 y4 (.slice none 0 0) = wz at SF BF OF ⊢
  have e0 := SF.c0
  have e1 := SF.c1
  have e2 := SF.c2
  have e3 := SF.c3
  have e4 := SF.c4
  have e5 := SF.c5
  have e6 := SF.c6
  have e7 := SF.c7
  exact bodyPost_ret (v := .tuple #[.agg #[.int .i64 a, .int .i64 q, .int .i64 y0, .int .i64 y1, .int .i64 y2, .int .i64 y3, .int .i64 y4, .slice none 0 0], .bool true]) (by simp [results, Try.results53, go_sem, e0, e1, e2, e3, e4, e5, e6, e7]) rfl ⟨_, _, rfl, OF, BF⟩
set_option maxHeartbeats 1000000 in
set_option maxRecDepth 100000 in
set_option linter.unusedVariables false in
theorem rdS0_0 (b off e n : Nat) (w : World) (h a q y0 y1 y2 y3 y4 : Int) (d : List Int) (hb : b < w.heap.size) (hc : w.cell? ⟨b, off, none⟩ = some (.int .i64 h)) (hcap : n + 1 ≤ e + 1) (hcap2 : e + 1 ≤ 9223372036854775807) (hK : h / 64 = a) (hQ : h / 8 % 8 = q) (hx : hasState a = true) (hy : hasData a = false) (hce : ¬ e = 0) (hsmall : n < 8)
    :
    Calls Try.prog 53 #[.slice (some ⟨b, off, none⟩) (n + 1) (e + 1)] w (GivesFB w Fr.zero (.bool false)) := by
  have hand := head_and h
  rw [hQ] at hand
  have HX := Lib.hid hx; have HY := Lib.hid hy
  clear hx hy hQ
  go_enter Try.func53, Try.ntmps53
  go_upto_region 3 with fail
  go_quiet (fail)
  go_wp2_with fail
  refine (hasStateAndData_any _ _).mono ?_
  rintro e w1' ⟨rfl, rfl⟩
  rw [HX.out, HY.out]
  have S1 := Lib.hid (ReadSt.start w nq a q)
  generalize (((w.alloc (.cells #[.int .i64 0, .int .i64 0, .int .i64 0, .int .i64 0, .int .i64 0, .int .i64 0, .int .i64 0, .slice none 0 0] 28)).drewN nq).alloc (.cells #[.int .i64 a, .int .i64 q, .int .i64 0, .int .i64 0, .int .i64 0, .int .i64 0, .int .i64 0, .slice none 0 0] 28)) = w1 at S1 ⊢
  have d0 := S1.out.res.c0
  have d1 := S1.out.res.c1
  have d2 := S1.out.res.c2
  have d3 := S1.out.res.c3
  have d4 := S1.out.res.c4
  have d5 := S1.out.res.c5
  have d6 := S1.out.res.c6
  have d7 := S1.out.res.c7
  have f0 := S1.out.res.f 0
  have f1 := S1.out.res.f 1
  have f2 := S1.out.res.f 2
  have f3 := S1.out.res.f 3
  have f4 := S1.out.res.f 4
  have f5 := S1.out.res.f 5
  have f6 := S1.out.res.f 6
  have f7 := S1.out.res.f 7
  go_wp2_with fail
  clear d0 d1 d2 d3 d4 d5 d6 d7 f0 f1 f2 f3 f4 f5 f6 f7
  change bodyPost _ _ _ _ _ (setEight w1 w.heap.size 0 0 0 0 0 0 0 (.slice none 0 0))
  obtain ⟨SF, BF, OF⟩ := S1.out.fin 0 0 0 0 0 0 0 (.slice none 0 0)
  generalize setEight w1 w.heap.size 0 0 0 0 0 0 0 (.slice none 0 0) = wz at SF BF OF ⊢
  have e0 := SF.c0
  have e1 := SF.c1
  have e2 := SF.c2
  have e3 := SF.c3
  have e4 := SF.c4
  have e5 := SF.c5
  have e6 := SF.c6
  have e7 := SF.c7
  exact bodyPost_ret (v := .tuple #[.agg #[.int .i64 0, .int .i64 0, .int .i64 0, .int .i64 0, .int .i64 0, .int .i64 0, .int .i64 0, .slice none 0 0], .bool false]) (by simp [results, Try.results53, go_sem, e0, e1, e2, e3, e4, e5, e6, e7]) rfl ⟨_, _, rfl, Own.nil_, BF⟩
set_option maxHeartbeats 1000000 in
set_option maxRecDepth 100000 in
set_option linter.unusedVariables false in
theorem rdS1_0 (b off e n : Nat) (w : World) (h a q y0 y1 y2 y3 y4 : Int) (d : List Int) (hb : b < w.heap.size) (hc : w.cell? ⟨b, off, none⟩ = some (.int .i64 h)) (hcap : n + 1 ≤ e + 1) (hcap2 : e + 1 ≤ 9223372036854775807) (hK : h / 64 = a) (hQ : h / 8 % 8 = q) (hx : hasState a = true) (hy : hasData a = true) (hce : ¬ e = 0) (hsmall : n < 8)
    :
    Calls Try.prog 53 #[.slice (some ⟨b, off, none⟩) (n + 1) (e + 1)] w (GivesFB w Fr.zero (.bool false)) := by
  have hand := head_and h
  rw [hQ] at hand
  have HX := Lib.hid hx; have HY := Lib.hid hy
  clear hx hy hQ
  go_enter Try.func53, Try.ntmps53
  go_upto_region 3 with fail
  go_quiet (fail)
  go_wp2_with fail
  refine (hasStateAndData_any _ _).mono ?_
  rintro e w1' ⟨rfl, rfl⟩
  rw [HX.out, HY.out]
  have S1 := Lib.hid (ReadSt.start w nq a q)
  generalize (((w.alloc (.cells #[.int .i64 0, .int .i64 0, .int .i64 0, .int .i64 0, .int .i64 0, .int .i64 0, .int .i64 0, .slice none 0 0] 28)).drewN nq).alloc (.cells #[.int .i64 a, .int .i64 q, .int .i64 0, .int .i64 0, .int .i64 0, .int .i64 0, .int .i64 0, .slice none 0 0] 28)) = w1 at S1 ⊢
  have d0 := S1.out.res.c0
  have d1 := S1.out.res.c1
  have d2 := S1.out.res.c2
  have d3 := S1.out.res.c3
  have d4 := S1.out.res.c4
  have d5 := S1.out.res.c5
  have d6 := S1.out.res.c6
  have d7 := S1.out.res.c7
  have f0 := S1.out.res.f 0
  have f1 := S1.out.res.f 1
  have f2 := S1.out.res.f 2
  have f3 := S1.out.res.f 3
  have f4 := S1.out.res.f 4
  have f5 := S1.out.res.f 5
  have f6 := S1.out.res.f 6
  have f7 := S1.out.res.f 7
  go_wp2_with fail
  clear d0 d1 d2 d3 d4 d5 d6 d7 f0 f1 f2 f3 f4 f5 f6 f7
  change bodyPost _ _ _ _ _ (setEight w1 w.heap.size 0 0 0 0 0 0 0 (.slice none 0 0))
  obtain ⟨SF, BF, OF⟩ := S1.out.fin 0 0 0 0 0 0 0 (.slice none 0 0)
  generalize setEight w1 w.heap.size 0 0 0 0 0 0 0 (.slice none 0 0) = wz at SF BF OF ⊢
  have e0 := SF.c0
  have e1 := SF.c1
  have e2 := SF.c2
  have e3 := SF.c3
  have e4 := SF.c4
  have e5 := SF.c5
  have e6 := SF.c6
  have e7 := SF.c7
  exact bodyPost_ret (v := .tuple #[.agg #[.int .i64 0, .int .i64 0, .int .i64 0, .int .i64 0, .int .i64 0, .int .i64 0, .int .i64 0, .slice none 0 0], .bool false]) (by simp [results, Try.results53, go_sem, e0, e1, e2, e3, e4, e5, e6, e7]) rfl ⟨_, _, rfl, Own.nil_, BF⟩
set_option maxHeartbeats 1000000 in
set_option maxRecDepth 100000 in
set_option linter.unusedVariables false in
theorem rdS0_1 (b off e n : Nat) (w : World) (h a q y0 y1 y2 y3 y4 : Int) (d : List Int) (hb : b < w.heap.size) (hc : w.cell? ⟨b, off, none⟩ = some (.int .i64 h)) (hcap : n + 1 ≤ 0 + 1) (hcap2 : 0 + 1 ≤ 9223372036854775807) (hK : h / 64 = a) (hQ : h / 8 % 8 = q) (hx : hasState a = true) (hy : hasData a = false) (hsmall : n < 8)
    :
    Calls Try.prog 53 #[.slice (some ⟨b, off, none⟩) (n + 1) (0 + 1)] w (GivesFB w Fr.zero (.bool false)) := by
  have hand := head_and h
  rw [hQ] at hand
  have HX := Lib.hid hx; have HY := Lib.hid hy
  clear hx hy hQ
  go_enter Try.func53, Try.ntmps53
  go_upto_region 3 with fail
  go_quiet (fail)
  go_wp2_with fail
  refine (hasStateAndData_any _ _).mono ?_
  rintro e w1' ⟨rfl, rfl⟩
  rw [HX.out, HY.out]
  have S1 := Lib.hid (ReadSt.start w nq a q)
  generalize (((w.alloc (.cells #[.int .i64 0, .int .i64 0, .int .i64 0, .int .i64 0, .int .i64 0, .int .i64 0, .int .i64 0, .slice none 0 0] 28)).drewN nq).alloc (.cells #[.int .i64 a, .int .i64 q, .int .i64 0, .int .i64 0, .int .i64 0, .int .i64 0, .int .i64 0, .slice none 0 0] 28)) = w1 at S1 ⊢
  have d0 := S1.out.res.c0
  have d1 := S1.out.res.c1
  have d2 := S1.out.res.c2
  have d3 := S1.out.res.c3
  have d4 := S1.out.res.c4
  have d5 := S1.out.res.c5
  have d6 := S1.out.res.c6
  have d7 := S1.out.res.c7
  have f0 := S1.out.res.f 0
  have f1 := S1.out.res.f 1
  have f2 := S1.out.res.f 2
  have f3 := S1.out.res.f 3
  have f4 := S1.out.res.f 4
  have f5 := S1.out.res.f 5
  have f6 := S1.out.res.f 6
  have f7 := S1.out.res.f 7
  go_wp2_with fail
  clear d0 d1 d2 d3 d4 d5 d6 d7 f0 f1 f2 f3 f4 f5 f6 f7
  change bodyPost _ _ _ _ _ (setEight w1 w.heap.size 0 0 0 0 0 0 0 (.slice none 0 0))
  obtain ⟨SF, BF, OF⟩ := S1.out.fin 0 0 0 0 0 0 0 (.slice none 0 0)
  generalize setEight w1 w.heap.size 0 0 0 0 0 0 0 (.slice none 0 0) = wz at SF BF OF ⊢
  have e0 := SF.c0
  have e1 := SF.c1
  have e2 := SF.c2
  have e3 := SF.c3
  have e4 := SF.c4
  have e5 := SF.c5
  have e6 := SF.c6
  have e7 := SF.c7
  exact bodyPost_ret (v := .tuple #[.agg #[.int .i64 0, .int .i64 0, .int .i64 0, .int .i64 0, .int .i64 0, .int .i64 0, .int .i64 0, .slice none 0 0], .bool false]) (by simp [results, Try.results53, go_sem, e0, e1, e2, e3, e4, e5, e6, e7]) rfl ⟨_, _, rfl, Own.nil_, BF⟩
set_option maxHeartbeats 1000000 in
set_option maxRecDepth 100000 in
set_option linter.unusedVariables false in
theorem rdS1_1 (b off e n : Nat) (w : World) (h a q y0 y1 y2 y3 y4 : Int) (d : List Int) (hb : b < w.heap.size) (hc : w.cell? ⟨b, off, none⟩ = some (.int .i64 h)) (hcap : n + 1 ≤ 0 + 1) (hcap2 : 0 + 1 ≤ 9223372036854775807) (hK : h / 64 = a) (hQ : h / 8 % 8 = q) (hx : hasState a = true) (hy : hasData a = true) (hsmall : n < 8)
    :
    Calls Try.prog 53 #[.slice (some ⟨b, off, none⟩) (n + 1) (0 + 1)] w (GivesFB w Fr.zero (.bool false)) := by
  have hand := head_and h
  rw [hQ] at hand
  have HX := Lib.hid hx; have HY := Lib.hid hy
  clear hx hy hQ
  go_enter Try.func53, Try.ntmps53
  go_upto_region 3 with fail
  go_quiet (fail)
  go_wp2_with fail
  refine (hasStateAndData_any _ _).mono ?_
  rintro e w1' ⟨rfl, rfl⟩
  rw [HX.out, HY.out]
  have S1 := Lib.hid (ReadSt.start w nq a q)
  generalize (((w.alloc (.cells #[.int .i64 0, .int .i64 0, .int .i64 0, .int .i64 0, .int .i64 0, .int .i64 0, .int .i64 0, .slice none 0 0] 28)).drewN nq).alloc (.cells #[.int .i64 a, .int .i64 q, .int .i64 0, .int .i64 0, .int .i64 0, .int .i64 0, .int .i64 0, .slice none 0 0] 28)) = w1 at S1 ⊢
  have d0 := S1.out.res.c0
  have d1 := S1.out.res.c1
  have d2 := S1.out.res.c2
  have d3 := S1.out.res.c3
  have d4 := S1.out.res.c4
  have d5 := S1.out.res.c5
  have d6 := S1.out.res.c6
  have d7 := S1.out.res.c7
  have f0 := S1.out.res.f 0
  have f1 := S1.out.res.f 1
  have f2 := S1.out.res.f 2
  have f3 := S1.out.res.f 3
  have f4 := S1.out.res.f 4
  have f5 := S1.out.res.f 5
  have f6 := S1.out.res.f 6
  have f7 := S1.out.res.f 7
  go_wp2_with fail
  clear d0 d1 d2 d3 d4 d5 d6 d7 f0 f1 f2 f3 f4 f5 f6 f7
  change bodyPost _ _ _ _ _ (setEight w1 w.heap.size 0 0 0 0 0 0 0 (.slice none 0 0))
  obtain ⟨SF, BF, OF⟩ := S1.out.fin 0 0 0 0 0 0 0 (.slice none 0 0)
  generalize setEight w1 w.heap.size 0 0 0 0 0 0 0 (.slice none 0 0) = wz at SF BF OF ⊢
  have e0 := SF.c0
  have e1 := SF.c1
  have e2 := SF.c2
  have e3 := SF.c3
  have e4 := SF.c4
  have e5 := SF.c5
  have e6 := SF.c6
  have e7 := SF.c7
  exact bodyPost_ret (v := .tuple #[.agg #[.int .i64 0, .int .i64 0, .int .i64 0, .int .i64 0, .int .i64 0, .int .i64 0, .int .i64 0, .slice none 0 0], .bool false]) (by simp [results, Try.results53, go_sem, e0, e1, e2, e3, e4, e5, e6, e7]) rfl ⟨_, _, rfl, Own.nil_, BF⟩
set_option maxHeartbeats 1000000 in
set_option maxRecDepth 100000 in
set_option linter.unusedVariables false in
theorem rd01_0 (b off e n : Nat) (w : World) (h a q y0 y1 y2 y3 y4 : Int) (d : List Int) (hb : b < w.heap.size) (hc : w.cell? ⟨b, off, none⟩ = some (.int .i64 h)) (hcap : d.length + 2 ≤ e + 1) (hcap2 : e + 1 ≤ 9223372036854775807) (hK : h / 64 = a) (hQ : h / 8 % 8 = q) (hx : hasState a = false) (hy : hasData a = true) (hce : ¬ e = 1) (hdl : d.length ≤ 1024)
    (hd : ∀ W o', Below w.heap.size w W → (o' = off + 2 ∨ d = []) → Rd W (some ⟨b, o', none⟩) d.length d) :
    Calls Try.prog 53 #[.slice (some ⟨b, off, none⟩) (d.length + 2) (e + 1)] w (GivesFB w ⟨a, q, 0, 0, 0, 0, 0, d⟩ (.bool true)) := by
  have hand := head_and h
  rw [hQ] at hand
  have HX := Lib.hid hx; have HY := Lib.hid hy; have HD := Lib.hid hd; clear hd
  clear hx hy hQ
  go_enter Try.func53, Try.ntmps53
  go_upto_region 3 with fail
  go_quiet (fail)
  go_wp2_with fail
  refine (hasStateAndData_any _ _).mono ?_
  rintro e w1' ⟨rfl, rfl⟩
  rw [HX.out, HY.out]
  have S1 := Lib.hid (ReadSt.start w nq a q)
  generalize (((w.alloc (.cells #[.int .i64 0, .int .i64 0, .int .i64 0, .int .i64 0, .int .i64 0, .int .i64 0, .int .i64 0, .slice none 0 0] 28)).drewN nq).alloc (.cells #[.int .i64 a, .int .i64 q, .int .i64 0, .int .i64 0, .int .i64 0, .int .i64 0, .int .i64 0, .slice none 0 0] 28)) = w1 at S1 ⊢
  go_upto_region 14 with (at_builtin; refine append_list _ rfl (.tmp 46) (.tmp 48) rfl (w.heap.size + 1 + 1) Try.underlying26 info64 _ [] rfl (Own.of_alloc_nil S1.out.size) _ _ _ d rfl (HD.out _ _ (S1.out.below.alloc S1.out.le _) (.inl (by omega))) (by simp; omega) (by have := S1.out.size; simp; omega) ?_; intro v5 w5 o5 b5; have S5 := Lib.hid ((S1.out.call ((Below.refl _ _).alloc (Nat.le_refl _) _)).app b5); obtain ⟨p5, cp5, rfl, o5', -⟩ := o5.get; have O5 := Lib.hid o5'; clear o5 o5' b5; have g7 := S5.out.var.c7; have gf := S5.out.var.f 7)
  clear g7 gf
  have S6 := Lib.hid (S5.out.data O5.out)
  rw [List.nil_append] at S6
  generalize World.setCell w5 ⟨w.heap.size + 1, 7, none⟩ _ = w6 at S6 ⊢
  have c0 := S6.out.var.c0
  have c1 := S6.out.var.c1
  have c2 := S6.out.var.c2
  have c3 := S6.out.var.c3
  have c4 := S6.out.var.c4
  have c5 := S6.out.var.c5
  have c6 := S6.out.var.c6
  have c7 := S6.out.var.c7
  have d0 := S6.out.res.c0
  have d1 := S6.out.res.c1
  have d2 := S6.out.res.c2
  have d3 := S6.out.res.c3
  have d4 := S6.out.res.c4
  have d5 := S6.out.res.c5
  have d6 := S6.out.res.c6
  have d7 := S6.out.res.c7
  have f0 := S6.out.res.f 0
  have f1 := S6.out.res.f 1
  have f2 := S6.out.res.f 2
  have f3 := S6.out.res.f 3
  have f4 := S6.out.res.f 4
  have f5 := S6.out.res.f 5
  have f6 := S6.out.res.f 6
  have f7 := S6.out.res.f 7
  go_wp2_with fail
  clear c0 c1 c2 c3 c4 c5 c6 c7
  clear d0 d1 d2 d3 d4 d5 d6 d7 f0 f1 f2 f3 f4 f5 f6 f7
  change bodyPost _ _ _ _ _ (setEight w6 w.heap.size a q 0 0 0 0 0 (.slice p5 d.length cp5))
  obtain ⟨SF, BF, OF⟩ := S6.out.fin a q 0 0 0 0 0 (.slice p5 d.length cp5)
  generalize setEight w6 w.heap.size a q 0 0 0 0 0 (.slice p5 d.length cp5) = wz at SF BF OF ⊢
  have e0 := SF.c0
  have e1 := SF.c1
  have e2 := SF.c2
  have e3 := SF.c3
  have e4 := SF.c4
  have e5 := SF.c5
  have e6 := SF.c6
  have e7 := SF.c7
  exact bodyPost_ret (v := .tuple #[.agg #[.int .i64 a, .int .i64 q, .int .i64 0, .int .i64 0, .int .i64 0, .int .i64 0, .int .i64 0, .slice p5 d.length cp5], .bool true]) (by simp [results, Try.results53, go_sem, e0, e1, e2, e3, e4, e5, e6, e7]) rfl ⟨_, _, rfl, OF, BF⟩
set_option maxHeartbeats 1000000 in
set_option maxRecDepth 100000 in
set_option linter.unusedVariables false in
theorem rd01_1 (b off e n : Nat) (w : World) (h a q y0 y1 y2 y3 y4 : Int) (d : List Int) (hb : b < w.heap.size) (hc : w.cell? ⟨b, off, none⟩ = some (.int .i64 h)) (hcap : d.length + 2 ≤ 1 + 1) (hcap2 : 1 + 1 ≤ 9223372036854775807) (hK : h / 64 = a) (hQ : h / 8 % 8 = q) (hx : hasState a = false) (hy : hasData a = true) (hdl : d.length ≤ 1024)
    (hd : ∀ W o', Below w.heap.size w W → (o' = off + 2 ∨ d = []) → Rd W (some ⟨b, o', none⟩) d.length d) :
    Calls Try.prog 53 #[.slice (some ⟨b, off, none⟩) (d.length + 2) (1 + 1)] w (GivesFB w ⟨a, q, 0, 0, 0, 0, 0, d⟩ (.bool true)) := by
  have hand := head_and h
  rw [hQ] at hand
  have HX := Lib.hid hx; have HY := Lib.hid hy; have HD := Lib.hid hd; clear hd
  clear hx hy hQ
  go_enter Try.func53, Try.ntmps53
  go_upto_region 3 with fail
  go_quiet (fail)
  go_wp2_with fail
  refine (hasStateAndData_any _ _).mono ?_
  rintro e w1' ⟨rfl, rfl⟩
  rw [HX.out, HY.out]
  have S1 := Lib.hid (ReadSt.start w nq a q)
  generalize (((w.alloc (.cells #[.int .i64 0, .int .i64 0, .int .i64 0, .int .i64 0, .int .i64 0, .int .i64 0, .int .i64 0, .slice none 0 0] 28)).drewN nq).alloc (.cells #[.int .i64 a, .int .i64 q, .int .i64 0, .int .i64 0, .int .i64 0, .int .i64 0, .int .i64 0, .slice none 0 0] 28)) = w1 at S1 ⊢
  go_upto_region 14 with (at_builtin; refine append_list _ rfl (.tmp 46) (.tmp 48) rfl (w.heap.size + 1 + 1) Try.underlying26 info64 _ [] rfl (Own.of_alloc_nil S1.out.size) _ _ _ d rfl (HD.out _ _ (S1.out.below.alloc S1.out.le _) (.inr (List.length_eq_zero_iff.1 (by omega)))) (by simp; omega) (by have := S1.out.size; simp; omega) ?_; intro v5 w5 o5 b5; have S5 := Lib.hid ((S1.out.call ((Below.refl _ _).alloc (Nat.le_refl _) _)).app b5); obtain ⟨p5, cp5, rfl, o5', -⟩ := o5.get; have O5 := Lib.hid o5'; clear o5 o5' b5; have g7 := S5.out.var.c7; have gf := S5.out.var.f 7)
  clear g7 gf
  have S6 := Lib.hid (S5.out.data O5.out)
  rw [List.nil_append] at S6
  generalize World.setCell w5 ⟨w.heap.size + 1, 7, none⟩ _ = w6 at S6 ⊢
  have c0 := S6.out.var.c0
  have c1 := S6.out.var.c1
  have c2 := S6.out.var.c2
  have c3 := S6.out.var.c3
  have c4 := S6.out.var.c4
  have c5 := S6.out.var.c5
  have c6 := S6.out.var.c6
  have c7 := S6.out.var.c7
  have d0 := S6.out.res.c0
  have d1 := S6.out.res.c1
  have d2 := S6.out.res.c2
  have d3 := S6.out.res.c3
  have d4 := S6.out.res.c4
  have d5 := S6.out.res.c5
  have d6 := S6.out.res.c6
  have d7 := S6.out.res.c7
  have f0 := S6.out.res.f 0
  have f1 := S6.out.res.f 1
  have f2 := S6.out.res.f 2
  have f3 := S6.out.res.f 3
  have f4 := S6.out.res.f 4
  have f5 := S6.out.res.f 5
  have f6 := S6.out.res.f 6
  have f7 := S6.out.res.f 7
  go_wp2_with fail
  clear c0 c1 c2 c3 c4 c5 c6 c7
  clear d0 d1 d2 d3 d4 d5 d6 d7 f0 f1 f2 f3 f4 f5 f6 f7
  change bodyPost _ _ _ _ _ (setEight w6 w.heap.size a q 0 0 0 0 0 (.slice p5 d.length cp5))
  obtain ⟨SF, BF, OF⟩ := S6.out.fin a q 0 0 0 0 0 (.slice p5 d.length cp5)
  generalize setEight w6 w.heap.size a q 0 0 0 0 0 (.slice p5 d.length cp5) = wz at SF BF OF ⊢
  have e0 := SF.c0
  have e1 := SF.c1
  have e2 := SF.c2
  have e3 := SF.c3
  have e4 := SF.c4
  have e5 := SF.c5
  have e6 := SF.c6
  have e7 := SF.c7
  exact bodyPost_ret (v := .tuple #[.agg #[.int .i64 a, .int .i64 q, .int .i64 0, .int .i64 0, .int .i64 0, .int .i64 0, .int .i64 0, .slice p5 d.length cp5], .bool true]) (by simp [results, Try.results53, go_sem, e0, e1, e2, e3, e4, e5, e6, e7]) rfl ⟨_, _, rfl, OF, BF⟩
set_option maxHeartbeats 1000000 in
set_option maxRecDepth 100000 in
set_option linter.unusedVariables false in
theorem rd01n_0 (b off e n : Nat) (w : World) (h a q y0 y1 y2 y3 y4 : Int) (d : List Int) (hb : b < w.heap.size) (hc : w.cell? ⟨b, off, none⟩ = some (.int .i64 h)) (hcap : 1 ≤ e + 1) (hcap2 : e + 1 ≤ 9223372036854775807) (hK : h / 64 = a) (hQ : h / 8 % 8 = q) (hx : hasState a = false) (hy : hasData a = true) (hce : ¬ e = 0)
    :
    Calls Try.prog 53 #[.slice (some ⟨b, off, none⟩) (1) (e + 1)] w (GivesFB w Fr.zero (.bool false)) := by
  have hand := head_and h
  rw [hQ] at hand
  have HX := Lib.hid hx; have HY := Lib.hid hy
  clear hx hy hQ
  go_enter Try.func53, Try.ntmps53
  go_upto_region 3 with fail
  go_quiet (fail)
  go_wp2_with fail
  refine (hasStateAndData_any _ _).mono ?_
  rintro e w1' ⟨rfl, rfl⟩
  rw [HX.out, HY.out]
  have S1 := Lib.hid (ReadSt.start w nq a q)
  generalize (((w.alloc (.cells #[.int .i64 0, .int .i64 0, .int .i64 0, .int .i64 0, .int .i64 0, .int .i64 0, .int .i64 0, .slice none 0 0] 28)).drewN nq).alloc (.cells #[.int .i64 a, .int .i64 q, .int .i64 0, .int .i64 0, .int .i64 0, .int .i64 0, .int .i64 0, .slice none 0 0] 28)) = w1 at S1 ⊢
  have d0 := S1.out.res.c0
  have d1 := S1.out.res.c1
  have d2 := S1.out.res.c2
  have d3 := S1.out.res.c3
  have d4 := S1.out.res.c4
  have d5 := S1.out.res.c5
  have d6 := S1.out.res.c6
  have d7 := S1.out.res.c7
  have f0 := S1.out.res.f 0
  have f1 := S1.out.res.f 1
  have f2 := S1.out.res.f 2
  have f3 := S1.out.res.f 3
  have f4 := S1.out.res.f 4
  have f5 := S1.out.res.f 5
  have f6 := S1.out.res.f 6
  have f7 := S1.out.res.f 7
  go_wp2_with fail
  clear d0 d1 d2 d3 d4 d5 d6 d7 f0 f1 f2 f3 f4 f5 f6 f7
  change bodyPost _ _ _ _ _ (setEight w1 w.heap.size 0 0 0 0 0 0 0 (.slice none 0 0))
  obtain ⟨SF, BF, OF⟩ := S1.out.fin 0 0 0 0 0 0 0 (.slice none 0 0)
  generalize setEight w1 w.heap.size 0 0 0 0 0 0 0 (.slice none 0 0) = wz at SF BF OF ⊢
  have e0 := SF.c0
  have e1 := SF.c1
  have e2 := SF.c2
  have e3 := SF.c3
  have e4 := SF.c4
  have e5 := SF.c5
  have e6 := SF.c6
  have e7 := SF.c7
  exact bodyPost_ret (v := .tuple #[.agg #[.int .i64 0, .int .i64 0, .int .i64 0, .int .i64 0, .int .i64 0, .int .i64 0, .int .i64 0, .slice none 0 0], .bool false]) (by simp [results, Try.results53, go_sem, e0, e1, e2, e3, e4, e5, e6, e7]) rfl ⟨_, _, rfl, Own.nil_, BF⟩
set_option maxHeartbeats 1000000 in
set_option maxRecDepth 100000 in
set_option linter.unusedVariables false in
theorem rd01n_1 (b off e n : Nat) (w : World) (h a q y0 y1 y2 y3 y4 : Int) (d : List Int) (hb : b < w.heap.size) (hc : w.cell? ⟨b, off, none⟩ = some (.int .i64 h)) (hcap : 1 ≤ 0 + 1) (hcap2 : 0 + 1 ≤ 9223372036854775807) (hK : h / 64 = a) (hQ : h / 8 % 8 = q) (hx : hasState a = false) (hy : hasData a = true)
    :
    Calls Try.prog 53 #[.slice (some ⟨b, off, none⟩) (1) (0 + 1)] w (GivesFB w Fr.zero (.bool false)) := by
  have hand := head_and h
  rw [hQ] at hand
  have HX := Lib.hid hx; have HY := Lib.hid hy
  clear hx hy hQ
  go_enter Try.func53, Try.ntmps53
  go_upto_region 3 with fail
  go_quiet (fail)
  go_wp2_with fail
  refine (hasStateAndData_any _ _).mono ?_
  rintro e w1' ⟨rfl, rfl⟩
  rw [HX.out, HY.out]
  have S1 := Lib.hid (ReadSt.start w nq a q)
  generalize (((w.alloc (.cells #[.int .i64 0, .int .i64 0, .int .i64 0, .int .i64 0, .int .i64 0, .int .i64 0, .int .i64 0, .slice none 0 0] 28)).drewN nq).alloc (.cells #[.int .i64 a, .int .i64 q, .int .i64 0, .int .i64 0, .int .i64 0, .int .i64 0, .int .i64 0, .slice none 0 0] 28)) = w1 at S1 ⊢
  have d0 := S1.out.res.c0
  have d1 := S1.out.res.c1
  have d2 := S1.out.res.c2
  have d3 := S1.out.res.c3
  have d4 := S1.out.res.c4
  have d5 := S1.out.res.c5
  have d6 := S1.out.res.c6
  have d7 := S1.out.res.c7
  have f0 := S1.out.res.f 0
  have f1 := S1.out.res.f 1
  have f2 := S1.out.res.f 2
  have f3 := S1.out.res.f 3
  have f4 := S1.out.res.f 4
  have f5 := S1.out.res.f 5
  have f6 := S1.out.res.f 6
  have f7 := S1.out.res.f 7
  go_wp2_with fail
  clear d0 d1 d2 d3 d4 d5 d6 d7 f0 f1 f2 f3 f4 f5 f6 f7
  change bodyPost _ _ _ _ _ (setEight w1 w.heap.size 0 0 0 0 0 0 0 (.slice none 0 0))
  obtain ⟨SF, BF, OF⟩ := S1.out.fin 0 0 0 0 0 0 0 (.slice none 0 0)
  generalize setEight w1 w.heap.size 0 0 0 0 0 0 0 (.slice none 0 0) = wz at SF BF OF ⊢
  have e0 := SF.c0
  have e1 := SF.c1
  have e2 := SF.c2
  have e3 := SF.c3
  have e4 := SF.c4
  have e5 := SF.c5
  have e6 := SF.c6
  have e7 := SF.c7
  exact bodyPost_ret (v := .tuple #[.agg #[.int .i64 0, .int .i64 0, .int .i64 0, .int .i64 0, .int .i64 0, .int .i64 0, .int .i64 0, .slice none 0 0], .bool false]) (by simp [results, Try.results53, go_sem, e0, e1, e2, e3, e4, e5, e6, e7]) rfl ⟨_, _, rfl, Own.nil_, BF⟩
set_option maxHeartbeats 1000000 in
set_option maxRecDepth 100000 in
set_option linter.unusedVariables false in
theorem rd00_0 (b off e n : Nat) (w : World) (h a q y0 y1 y2 y3 y4 : Int) (d : List Int) (hb : b < w.heap.size) (hc : w.cell? ⟨b, off, none⟩ = some (.int .i64 h)) (hcap : n + 1 ≤ e + 1) (hcap2 : e + 1 ≤ 9223372036854775807) (hK : h / 64 = a) (hQ : h / 8 % 8 = q) (hx : hasState a = false) (hy : hasData a = false) (hce : ¬ e = 0)
    :
    Calls Try.prog 53 #[.slice (some ⟨b, off, none⟩) (n + 1) (e + 1)] w (GivesFB w ⟨a, q, 0, 0, 0, 0, 0, []⟩ (.bool true)) := by
  have hand := head_and h
  rw [hQ] at hand
  have HX := Lib.hid hx; have HY := Lib.hid hy
  clear hx hy hQ
  go_enter Try.func53, Try.ntmps53
  go_upto_region 3 with fail
  go_quiet (fail)
  go_wp2_with fail
  refine (hasStateAndData_any _ _).mono ?_
  rintro e w1' ⟨rfl, rfl⟩
  rw [HX.out, HY.out]
  have S1 := Lib.hid (ReadSt.start w nq a q)
  generalize (((w.alloc (.cells #[.int .i64 0, .int .i64 0, .int .i64 0, .int .i64 0, .int .i64 0, .int .i64 0, .int .i64 0, .slice none 0 0] 28)).drewN nq).alloc (.cells #[.int .i64 a, .int .i64 q, .int .i64 0, .int .i64 0, .int .i64 0, .int .i64 0, .int .i64 0, .slice none 0 0] 28)) = w1 at S1 ⊢
  have c0 := S1.out.var.c0
  have c1 := S1.out.var.c1
  have c2 := S1.out.var.c2
  have c3 := S1.out.var.c3
  have c4 := S1.out.var.c4
  have c5 := S1.out.var.c5
  have c6 := S1.out.var.c6
  have c7 := S1.out.var.c7
  have d0 := S1.out.res.c0
  have d1 := S1.out.res.c1
  have d2 := S1.out.res.c2
  have d3 := S1.out.res.c3
  have d4 := S1.out.res.c4
  have d5 := S1.out.res.c5
  have d6 := S1.out.res.c6
  have d7 := S1.out.res.c7
  have f0 := S1.out.res.f 0
  have f1 := S1.out.res.f 1
  have f2 := S1.out.res.f 2
  have f3 := S1.out.res.f 3
  have f4 := S1.out.res.f 4
  have f5 := S1.out.res.f 5
  have f6 := S1.out.res.f 6
  have f7 := S1.out.res.f 7
  go_wp2_with fail
  clear c0 c1 c2 c3 c4 c5 c6 c7
  clear d0 d1 d2 d3 d4 d5 d6 d7 f0 f1 f2 f3 f4 f5 f6 f7
  change bodyPost _ _ _ _ _ (setEight w1 w.heap.size a q 0 0 0 0 0 (.slice none 0 0))
  obtain ⟨SF, BF, OF⟩ := S1.out.fin a q 0 0 0 0 0 (.slice none 0 0)
  generalize setEight w1 w.heap.size a q 0 0 0 0 0 (.slice none 0 0) = wz at SF BF OF ⊢
  have e0 := SF.c0
  have e1 := SF.c1
  have e2 := SF.c2
  have e3 := SF.c3
  have e4 := SF.c4
  have e5 := SF.c5
  have e6 := SF.c6
  have e7 := SF.c7
  exact bodyPost_ret (v := .tuple #[.agg #[.int .i64 a, .int .i64 q, .int .i64 0, .int .i64 0, .int .i64 0, .int .i64 0, .int .i64 0, .slice none 0 0], .bool true]) (by simp [results, Try.results53, go_sem, e0, e1, e2, e3, e4, e5, e6, e7]) rfl ⟨_, _, rfl, OF, BF⟩
set_option maxHeartbeats 1000000 in
set_option maxRecDepth 100000 in
set_option linter.unusedVariables false in
theorem rd00_1 (b off e n : Nat) (w : World) (h a q y0 y1 y2 y3 y4 : Int) (d : List Int) (hb : b < w.heap.size) (hc : w.cell? ⟨b, off, none⟩ = some (.int .i64 h)) (hcap : n + 1 ≤ 0 + 1) (hcap2 : 0 + 1 ≤ 9223372036854775807) (hK : h / 64 = a) (hQ : h / 8 % 8 = q) (hx : hasState a = false) (hy : hasData a = false)
    :
    Calls Try.prog 53 #[.slice (some ⟨b, off, none⟩) (n + 1) (0 + 1)] w (GivesFB w ⟨a, q, 0, 0, 0, 0, 0, []⟩ (.bool true)) := by
  have hand := head_and h
  rw [hQ] at hand
  have HX := Lib.hid hx; have HY := Lib.hid hy
  clear hx hy hQ
  go_enter Try.func53, Try.ntmps53
  go_upto_region 3 with fail
  go_quiet (fail)
  go_wp2_with fail
  refine (hasStateAndData_any _ _).mono ?_
  rintro e w1' ⟨rfl, rfl⟩
  rw [HX.out, HY.out]
  have S1 := Lib.hid (ReadSt.start w nq a q)
  generalize (((w.alloc (.cells #[.int .i64 0, .int .i64 0, .int .i64 0, .int .i64 0, .int .i64 0, .int .i64 0, .int .i64 0, .slice none 0 0] 28)).drewN nq).alloc (.cells #[.int .i64 a, .int .i64 q, .int .i64 0, .int .i64 0, .int .i64 0, .int .i64 0, .int .i64 0, .slice none 0 0] 28)) = w1 at S1 ⊢
  have c0 := S1.out.var.c0
  have c1 := S1.out.var.c1
  have c2 := S1.out.var.c2
  have c3 := S1.out.var.c3
  have c4 := S1.out.var.c4
  have c5 := S1.out.var.c5
  have c6 := S1.out.var.c6
  have c7 := S1.out.var.c7
  have d0 := S1.out.res.c0
  have d1 := S1.out.res.c1
  have d2 := S1.out.res.c2
  have d3 := S1.out.res.c3
  have d4 := S1.out.res.c4
  have d5 := S1.out.res.c5
  have d6 := S1.out.res.c6
  have d7 := S1.out.res.c7
  have f0 := S1.out.res.f 0
  have f1 := S1.out.res.f 1
  have f2 := S1.out.res.f 2
  have f3 := S1.out.res.f 3
  have f4 := S1.out.res.f 4
  have f5 := S1.out.res.f 5
  have f6 := S1.out.res.f 6
  have f7 := S1.out.res.f 7
  go_wp2_with fail
  clear c0 c1 c2 c3 c4 c5 c6 c7
  clear d0 d1 d2 d3 d4 d5 d6 d7 f0 f1 f2 f3 f4 f5 f6 f7
  change bodyPost _ _ _ _ _ (setEight w1 w.heap.size a q 0 0 0 0 0 (.slice none 0 0))
  obtain ⟨SF, BF, OF⟩ := S1.out.fin a q 0 0 0 0 0 (.slice none 0 0)
  generalize setEight w1 w.heap.size a q 0 0 0 0 0 (.slice none 0 0) = wz at SF BF OF ⊢
  have e0 := SF.c0
  have e1 := SF.c1
  have e2 := SF.c2
  have e3 := SF.c3
  have e4 := SF.c4
  have e5 := SF.c5
  have e6 := SF.c6
  have e7 := SF.c7
  exact bodyPost_ret (v := .tuple #[.agg #[.int .i64 a, .int .i64 q, .int .i64 0, .int .i64 0, .int .i64 0, .int .i64 0, .int .i64 0, .slice none 0 0], .bool true]) (by simp [results, Try.results53, go_sem, e0, e1, e2, e3, e4, e5, e6, e7]) rfl ⟨_, _, rfl, OF, BF⟩
end Go.Proofs.Ytnblbemkpojjdaa
