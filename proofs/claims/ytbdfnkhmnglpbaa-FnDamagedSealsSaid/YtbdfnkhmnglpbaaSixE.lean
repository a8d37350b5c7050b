/-
  Chapter 6: readBody, and what stands in memory while a frame is read.
  Chapter 6: readBody as a whole.
  Chapter 6: FrameFromBody of the program.
-/
import Derived.Test.YtbdfnkhmnglpbaaSixD
import Derived.Deep.RegionHeld3
namespace Go.Proofs.Ytbdfnkhmnglpbaa
section
open Go.RowKit

/-- While a frame is read: the block of the result, still the zero value; the frame so far in the next block; its data a slice of the call's own. -/
structure ReadSt (w wi : World) (a q t m r s k : Int) (v : Value) (xs : List Int) : Prop where
  res : FrameAt 28 wi w.heap.size 0 0 0 0 0 0 0 (.slice none 0 0)
  var : FrameAt 28 wi (w.heap.size + 1) a q t m r s k v
  below : Below w.heap.size w wi
  own : Own 2 wi (w.heap.size + 1 + 1) v xs
section
variable {w wi wj : World} {a q t m r s k : Int} {v : Value} {xs : List Int}
theorem ReadSt.call (h : ReadSt w wi a q t m r s k v xs) (b : Below wi.heap.size wi wj) : ReadSt w wj a q t m r s k v xs := ⟨h.res.below b h.res.lt, h.var.below b h.var.lt, below_two h.below b, h.own.below b⟩
theorem ReadSt.size (h : ReadSt w wi a q t m r s k v xs) : w.heap.size + 1 + 1 ≤ wi.heap.size := h.var.lt
theorem ReadSt.le (h : ReadSt w wi a q t m r s k v xs) : w.heap.size ≤ wi.heap.size := by have := h.size; omega
/-- A step that leaves alone all up to the two blocks, ahead of the data. -/
theorem ReadSt.app (h : ReadSt w wi a q t m r s k (.slice none 0 0) []) (b : Below (w.heap.size + 1 + 1) wi wj) : ReadSt w wj a q t m r s k (.slice none 0 0) [] :=
  ⟨h.res.below b (by omega), h.var.below b (by omega), h.below.trans (b.mono (by omega)), Own.nil_⟩
theorem ReadSt.five (h : ReadSt w wi a q t m r s k v xs) (t' m' r' s' k' : Int) : ReadSt w (setFiveAt wi (w.heap.size + 1) 2 t' m' r' s' k') a q t' m' r' s' k' v xs :=
  ⟨h.res.otherFive (by omega) 2 t' m' r' s' k', h.var.fiveAt t' m' r' s' k', h.below.trans (below_fiveAt (by omega) t' m' r' s' k'), h.own.awayFive (by omega) 2 t' m' r' s' k'⟩
theorem ReadSt.data {v' : Value} {xs' : List Int} (h : ReadSt w wi a q t m r s k v xs) (o : Own 2 wi (w.heap.size + 1 + 1) v' xs') : ReadSt w (wi.setCell ⟨w.heap.size + 1, 7, none⟩ v') a q t m r s k v' xs' :=
  ⟨h.res.other (by omega), h.var.set7 v', h.below.trans ((Below.refl w.heap.size wi).setCell (p := ⟨w.heap.size + 1, 7, none⟩) (by simp) v'), o.away (by omega) 7 v'⟩
/-- The result is stored. -/
theorem ReadSt.fin (h : ReadSt w wi a q t m r s k v xs) (a' q' t' m' r' s' k' : Int) (v' : Value) : FrameAt 28 (setEight wi w.heap.size a' q' t' m' r' s' k' v') w.heap.size a' q' t' m' r' s' k' v' ∧ Below w.heap.size w (setEight wi w.heap.size a' q' t' m' r' s' k' v') ∧ Own 2 (setEight wi w.heap.size a' q' t' m' r' s' k' v') w.heap.size v xs :=
  ⟨h.res.eight a' q' t' m' r' s' k' v', h.below.trans (below_eight (Nat.le_refl _) a' q' t' m' r' s' k' v'), (h.own.awayEight (by omega) a' q' t' m' r' s' k' v').more (by omega)⟩
end
theorem ReadSt.start (w : World) (n : Nat) (a q : Int) : ReadSt w (((w.alloc (.cells #[.int .i64 0, .int .i64 0, .int .i64 0, .int .i64 0, .int .i64 0, .int .i64 0, .int .i64 0, .slice none 0 0] 28)).drewN n).alloc (.cells #[.int .i64 a, .int .i64 q, .int .i64 0, .int .i64 0, .int .i64 0, .int .i64 0, .int .i64 0, .slice none 0 0] 28)) a q 0 0 0 0 0 (.slice none 0 0) [] := by
  have e1 : ((w.alloc (.cells #[.int .i64 0, .int .i64 0, .int .i64 0, .int .i64 0, .int .i64 0, .int .i64 0, .int .i64 0, .slice none 0 0] 28)).drewN n).heap.size = w.heap.size + 1 := by simp [World.drewN]
  have r0 : FrameAt 28 ((w.alloc (.cells #[.int .i64 0, .int .i64 0, .int .i64 0, .int .i64 0, .int .i64 0, .int .i64 0, .int .i64 0, .slice none 0 0] 28)).drewN n) w.heap.size 0 0 0 0 0 0 0 (.slice none 0 0) := FrameAt.new w
  have b1 : Below ((w.alloc (.cells #[.int .i64 0, .int .i64 0, .int .i64 0, .int .i64 0, .int .i64 0, .int .i64 0, .int .i64 0, .slice none 0 0] 28)).drewN n).heap.size ((w.alloc (.cells #[.int .i64 0, .int .i64 0, .int .i64 0, .int .i64 0, .int .i64 0, .int .i64 0, .int .i64 0, .slice none 0 0] 28)).drewN n) (((w.alloc (.cells #[.int .i64 0, .int .i64 0, .int .i64 0, .int .i64 0, .int .i64 0, .int .i64 0, .int .i64 0, .slice none 0 0] 28)).drewN n).alloc (.cells #[.int .i64 a, .int .i64 q, .int .i64 0, .int .i64 0, .int .i64 0, .int .i64 0, .int .i64 0, .slice none 0 0] 28)) := (Below.refl _ _).alloc (Nat.le_refl _) _
  have v0 : FrameAt 28 (((w.alloc (.cells #[.int .i64 0, .int .i64 0, .int .i64 0, .int .i64 0, .int .i64 0, .int .i64 0, .int .i64 0, .slice none 0 0] 28)).drewN n).alloc (.cells #[.int .i64 a, .int .i64 q, .int .i64 0, .int .i64 0, .int .i64 0, .int .i64 0, .int .i64 0, .slice none 0 0] 28)) ((w.alloc (.cells #[.int .i64 0, .int .i64 0, .int .i64 0, .int .i64 0, .int .i64 0, .int .i64 0, .int .i64 0, .slice none 0 0] 28)).drewN n).heap.size a q 0 0 0 0 0 (.slice none 0 0) := FrameAt.new _
  rw [e1] at v0
  exact ⟨r0.below b1 r0.lt, v0, (below_drewN' ((Below.refl _ _).alloc (Nat.le_refl _) _) n).trans (b1.mono (by rw [e1]; omega)), Own.nil_⟩
theorem head_and (h : Int) : bits .and .i64 (h / 8) 7 = h / 8 % 8 := by
  have h2 : (BitVec.ofInt 64 7).toNat = 2 ^ 3 - 1 := by decide
  have key : (BitVec.ofInt 64 (h / 8) &&& BitVec.ofInt 64 7).toNat = ((h / 8) % ((2 ^ 64 : Nat) : Int)).toNat % 2 ^ 3 := by
    rw [BitVec.toNat_and, BitVec.toNat_ofInt, h2, Nat.and_two_pow_sub_one_eq_mod]
  show IntKind.i64.wrap ((BitVec.ofInt 64 (h / 8) &&& BitVec.ofInt 64 7).toNat : Nat) = h / 8 % 8
  rw [key, IntKind.wrap_i64]
  omega

set_option maxHeartbeats 1000000 in
set_option maxRecDepth 100000 in
set_option linter.unusedVariables false in
theorem rd11_0 (b off e n : Nat) (w : World) (h a q y0 y1 y2 y3 y4 : Int) (d : List Int) (hb : b < w.heap.size) (hc : w.cell? ⟨b, off, none⟩ = some (.int .i64 h)) (hcap : d.length + 10 ≤ e + 9) (hcap2 : e + 9 ≤ 9223372036854775807) (hK : h / 64 = a) (hQ : h / 8 % 8 = q) (hx : hasState a = true) (hy : hasData a = true) (hce : ¬ e = 1) (hdl : d.length ≤ 1024)
    (hst : ∀ W c, Below w.heap.size w W → Calls Try.prog 155 #[.slice (some ⟨b, off + 1, none⟩) 8 c] W (GivesState W y0 y1 y2 y3 y4)) (hd : ∀ W o', Below w.heap.size w W → (o' = off + 10 ∨ d = []) → Rd W (some ⟨b, o', none⟩) d.length d) :
    Calls Try.prog 131 #[.slice (some ⟨b, off, none⟩) (d.length + 10) (e + 9)] w (GivesFB w ⟨a, q, y0, y1, y2, y3, y4, d⟩ (.bool true)) := by
  have hand := head_and h
  rw [hQ] at hand
  have HX := Lib.hid hx; have HY := Lib.hid hy; have HST := Lib.hid hst; clear hst; have HD := Lib.hid hd; clear hd
  clear hx hy hQ
  go_enter Try.func131, Try.ntmps131
  go_upto_region 3 with fail
  go_quiet (fail)
  go_wp2_with fail
  refine (hasStateAndData_any _ _).mono ?_
  rintro e w1' ⟨rfl, rfl⟩
  rw [HX.out, HY.out]
  have S1 := Lib.hid (ReadSt.start w nq a q)
  generalize (((w.alloc (.cells #[.int .i64 0, .int .i64 0, .int .i64 0, .int .i64 0, .int .i64 0, .int .i64 0, .int .i64 0, .slice none 0 0] 28)).drewN nq).alloc (.cells #[.int .i64 a, .int .i64 q, .int .i64 0, .int .i64 0, .int .i64 0, .int .i64 0, .int .i64 0, .slice none 0 0] 28)) = w1 at S1 ⊢
  go_upto_region 9 with fail
  have q1 : (8 : Int) ≤ (e : Int) + 8 := by omega
  have S2 := Lib.hid (S1.out.call (Below.drew (Below.refl w1.heap.size w1)))
  go_region_held3 (fun _ => True) (trivial) (first | (go_at_call 155; (with_reducible refine (HST.out _ _ S2.out.below).mono ?_); rintro e w3 ⟨rfl, b3⟩; have S3 := Lib.hid (S2.out.call b3); clear b3; have c2 := S3.out.var.c2; have c3 := S3.out.var.c3; have c4 := S3.out.var.c4; have c5 := S3.out.var.c5; have c6 := S3.out.var.c6; have f2 := S3.out.var.f 2; have f3 := S3.out.var.f 3; have f4 := S3.out.var.f 4; have f5 := S3.out.var.f 5; have f6 := S3.out.var.f 6))
  clear c2 c3 c4 c5 c6 f2 f3 f4 f5 f6
  change Exit.then _ _ _ _ (setFiveAt w3 (w.heap.size + 1) 2 y0 y1 y2 y3 y4)
  have S4 := Lib.hid (S3.out.five y0 y1 y2 y3 y4)
  generalize setFiveAt w3 (w.heap.size + 1) 2 y0 y1 y2 y3 y4 = w4 at S4 ⊢
  clear S1 S2 S3
  go_upto_region 14 with (at_builtin; refine append_list _ rfl (.tmp 46) (.tmp 48) rfl (w.heap.size + 1 + 1) Try.underlying26 info64 _ [] rfl (Own.of_alloc_nil S4.out.size) _ _ _ d rfl (HD.out _ _ (S4.out.below.alloc S4.out.le _) (.inl (by omega))) (by simp; omega) (by have := S4.out.size; simp; omega) ?_; intro v5 w5 o5 b5; have S5 := Lib.hid ((S4.out.call ((Below.refl _ _).alloc (Nat.le_refl _) _)).app b5); obtain ⟨p5, cp5, rfl, o5', -⟩ := o5.get; have O5 := Lib.hid o5'; clear o5 o5' b5; have g7 := S5.out.var.c7; have gf := S5.out.var.f 7)
  clear g7 gf
  have S6 := Lib.hid (S5.out.data O5.out)
  rw [List.nil_append] at S6
  generalize World.setCell w5 ⟨w.heap.size + 1, 7, none⟩ _ = w6 at S6 ⊢
  have c0 := S6.out.var.c0
  have c1 := S6.out.var.c1
  have c2 := S6.out.var.c2
  have c3 := S6.out.var.c3
  have c4 := S6.out.var.c4
  have c5 := S6.out.var.c5
  have c6 := S6.out.var.c6
  have c7 := S6.out.var.c7
  have d0 := S6.out.res.c0
  have d1 := S6.out.res.c1
  have d2 := S6.out.res.c2
  have d3 := S6.out.res.c3
  have d4 := S6.out.res.c4
  have d5 := S6.out.res.c5
  have d6 := S6.out.res.c6
  have d7 := S6.out.res.c7
  have f0 := S6.out.res.f 0
  have f1 := S6.out.res.f 1
  have f2 := S6.out.res.f 2
  have f3 := S6.out.res.f 3
  have f4 := S6.out.res.f 4
  have f5 := S6.out.res.f 5
  have f6 := S6.out.res.f 6
  have f7 := S6.out.res.f 7
  go_wp2_with fail
  clear c0 c1 c2 c3 c4 c5 c6 c7
  clear d0 d1 d2 d3 d4 d5 d6 d7 f0 f1 f2 f3 f4 f5 f6 f7
  change bodyPost _ _ _ _ _ (setEight w6 w.heap.size a q y0 y1 y2 y3 y4 (.slice p5 d.length cp5))
  obtain ⟨SF, BF, OF⟩ := S6.out.fin a q y0 y1 y2 y3 y4 (.slice p5 d.length cp5)
  generalize setEight w6 w.heap.size a q y0 y1 y2 y3 y4 (.slice p5 d.length cp5) = wz at SF BF OF ⊢
  have e0 := SF.c0
  have e1 := SF.c1
  have e2 := SF.c2
  have e3 := SF.c3
  have e4 := SF.c4
  have e5 := SF.c5
  have e6 := SF.c6
  have e7 := SF.c7
  exact bodyPost_ret (v := .tuple #[.agg #[.int .i64 a, .int .i64 q, .int .i64 y0, .int .i64 y1, .int .i64 y2, .int .i64 y3, .int .i64 y4, .slice p5 d.length cp5], .bool true]) (by simp [results, Try.results131, go_sem, e0, e1, e2, e3, e4, e5, e6, e7]) rfl ⟨_, _, rfl, OF, BF⟩
set_option maxHeartbeats 1000000 in
set_option maxRecDepth 100000 in
set_option linter.unusedVariables false in
theorem rd11_1 (b off e n : Nat) (w : World) (h a q y0 y1 y2 y3 y4 : Int) (d : List Int) (hb : b < w.heap.size) (hc : w.cell? ⟨b, off, none⟩ = some (.int .i64 h)) (hcap : d.length + 10 ≤ 1 + 9) (hcap2 : 1 + 9 ≤ 9223372036854775807) (hK : h / 64 = a) (hQ : h / 8 % 8 = q) (hx : hasState a = true) (hy : hasData a = true) (hdl : d.length ≤ 1024)
    (hst : ∀ W c, Below w.heap.size w W → Calls Try.prog 155 #[.slice (some ⟨b, off + 1, none⟩) 8 c] W (GivesState W y0 y1 y2 y3 y4)) (hd : ∀ W o', Below w.heap.size w W → (o' = off + 10 ∨ d = []) → Rd W (some ⟨b, o', none⟩) d.length d) :
    Calls Try.prog 131 #[.slice (some ⟨b, off, none⟩) (d.length + 10) (1 + 9)] w (GivesFB w ⟨a, q, y0, y1, y2, y3, y4, d⟩ (.bool true)) := by
  have hand := head_and h
  rw [hQ] at hand
  have HX := Lib.hid hx; have HY := Lib.hid hy; have HST := Lib.hid hst; clear hst; have HD := Lib.hid hd; clear hd
  clear hx hy hQ
  go_enter Try.func131, Try.ntmps131
  go_upto_region 3 with fail
  go_quiet (fail)
  go_wp2_with fail
  refine (hasStateAndData_any _ _).mono ?_
  rintro e w1' ⟨rfl, rfl⟩
  rw [HX.out, HY.out]
  have S1 := Lib.hid (ReadSt.start w nq a q)
  generalize (((w.alloc (.cells #[.int .i64 0, .int .i64 0, .int .i64 0, .int .i64 0, .int .i64 0, .int .i64 0, .int .i64 0, .slice none 0 0] 28)).drewN nq).alloc (.cells #[.int .i64 a, .int .i64 q, .int .i64 0, .int .i64 0, .int .i64 0, .int .i64 0, .int .i64 0, .slice none 0 0] 28)) = w1 at S1 ⊢
  go_upto_region 9 with fail
  have q1 : (8 : Int) ≤ (1 : Int) + 8 := by omega
  have S2 := Lib.hid (S1.out.call (Below.drew (Below.refl w1.heap.size w1)))
  go_region_held3 (fun _ => True) (trivial) (first | (go_at_call 155; (with_reducible refine (HST.out _ _ S2.out.below).mono ?_); rintro e w3 ⟨rfl, b3⟩; have S3 := Lib.hid (S2.out.call b3); clear b3; have c2 := S3.out.var.c2; have c3 := S3.out.var.c3; have c4 := S3.out.var.c4; have c5 := S3.out.var.c5; have c6 := S3.out.var.c6; have f2 := S3.out.var.f 2; have f3 := S3.out.var.f 3; have f4 := S3.out.var.f 4; have f5 := S3.out.var.f 5; have f6 := S3.out.var.f 6))
  clear c2 c3 c4 c5 c6 f2 f3 f4 f5 f6
  change Exit.then _ _ _ _ (setFiveAt w3 (w.heap.size + 1) 2 y0 y1 y2 y3 y4)
  have S4 := Lib.hid (S3.out.five y0 y1 y2 y3 y4)
  generalize setFiveAt w3 (w.heap.size + 1) 2 y0 y1 y2 y3 y4 = w4 at S4 ⊢
  clear S1 S2 S3
  go_upto_region 14 with (at_builtin; refine append_list _ rfl (.tmp 46) (.tmp 48) rfl (w.heap.size + 1 + 1) Try.underlying26 info64 _ [] rfl (Own.of_alloc_nil S4.out.size) _ _ _ d rfl (HD.out _ _ (S4.out.below.alloc S4.out.le _) (.inr (List.length_eq_zero_iff.1 (by omega)))) (by simp; omega) (by have := S4.out.size; simp; omega) ?_; intro v5 w5 o5 b5; have S5 := Lib.hid ((S4.out.call ((Below.refl _ _).alloc (Nat.le_refl _) _)).app b5); obtain ⟨p5, cp5, rfl, o5', -⟩ := o5.get; have O5 := Lib.hid o5'; clear o5 o5' b5; have g7 := S5.out.var.c7; have gf := S5.out.var.f 7)
  clear g7 gf
  have S6 := Lib.hid (S5.out.data O5.out)
  rw [List.nil_append] at S6
  generalize World.setCell w5 ⟨w.heap.size + 1, 7, none⟩ _ = w6 at S6 ⊢
  have c0 := S6.out.var.c0
  have c1 := S6.out.var.c1
  have c2 := S6.out.var.c2
  have c3 := S6.out.var.c3
  have c4 := S6.out.var.c4
  have c5 := S6.out.var.c5
  have c6 := S6.out.var.c6
  have c7 := S6.out.var.c7
  have d0 := S6.out.res.c0
  have d1 := S6.out.res.c1
  have d2 := S6.out.res.c2
  have d3 := S6.out.res.c3
  have d4 := S6.out.res.c4
  have d5 := S6.out.res.c5
  have d6 := S6.out.res.c6
  have d7 := S6.out.res.c7
  have f0 := S6.out.res.f 0
  have f1 := S6.out.res.f 1
  have f2 := S6.out.res.f 2
  have f3 := S6.out.res.f 3
  have f4 := S6.out.res.f 4
  have f5 := S6.out.res.f 5
  have f6 := S6.out.res.f 6
  have f7 := S6.out.res.f 7
  go_wp2_with fail
  clear c0 c1 c2 c3 c4 c5 c6 c7
  clear d0 d1 d2 d3 d4 d5 d6 d7 f0 f1 f2 f3 f4 f5 f6 f7
  change bodyPost _ _ _ _ _ (setEight w6 w.heap.size a q y0 y1 y2 y3 y4 (.slice p5 d.length cp5))
  obtain ⟨SF, BF, OF⟩ := S6.out.fin a q y0 y1 y2 y3 y4 (.slice p5 d.length cp5)
  generalize setEight w6 w.heap.size a q y0 y1 y2 y3 y4 (.slice p5 d.length cp5) = wz at SF BF OF ⊢
  have e0 := SF.c0
  have e1 := SF.c1
  have e2 := SF.c2
  have e3 := SF.c3
  have e4 := SF.c4
  have e5 := SF.c5
  have e6 := SF.c6
  have e7 := SF.c7
  exact bodyPost_ret (v := .tuple #[.agg #[.int .i64 a, .int .i64 q, .int .i64 y0, .int .i64 y1, .int .i64 y2, .int .i64 y3, .int .i64 y4, .slice p5 d.length cp5], .bool true]) (by simp [results, Try.results131, go_sem, e0, e1, e2, e3, e4, e5, e6, e7]) rfl ⟨_, _, rfl, OF, BF⟩
set_option maxHeartbeats 1000000 in
set_option maxRecDepth 100000 in
set_option linter.unusedVariables false in
theorem rd11n_0 (b off e n : Nat) (w : World) (h a q y0 y1 y2 y3 y4 : Int) (d : List Int) (hb : b < w.heap.size) (hc : w.cell? ⟨b, off, none⟩ = some (.int .i64 h)) (hcap : 9 ≤ e + 9) (hcap2 : e + 9 ≤ 9223372036854775807) (hK : h / 64 = a) (hQ : h / 8 % 8 = q) (hx : hasState a = true) (hy : hasData a = true) (hce : ¬ e = 0)
    (hst : ∀ W c, Below w.heap.size w W → Calls Try.prog 155 #[.slice (some ⟨b, off + 1, none⟩) 8 c] W (GivesState W y0 y1 y2 y3 y4)) :
    Calls Try.prog 131 #[.slice (some ⟨b, off, none⟩) (9) (e + 9)] w (GivesFB w Fr.zero (.bool false)) := by
  have hand := head_and h
  rw [hQ] at hand
  have HX := Lib.hid hx; have HY := Lib.hid hy; have HST := Lib.hid hst; clear hst
  clear hx hy hQ
  go_enter Try.func131, Try.ntmps131
  go_upto_region 3 with fail
  go_quiet (fail)
  go_wp2_with fail
  refine (hasStateAndData_any _ _).mono ?_
  rintro e w1' ⟨rfl, rfl⟩
  rw [HX.out, HY.out]
  have S1 := Lib.hid (ReadSt.start w nq a q)
  generalize (((w.alloc (.cells #[.int .i64 0, .int .i64 0, .int .i64 0, .int .i64 0, .int .i64 0, .int .i64 0, .int .i64 0, .slice none 0 0] 28)).drewN nq).alloc (.cells #[.int .i64 a, .int .i64 q, .int .i64 0, .int .i64 0, .int .i64 0, .int .i64 0, .int .i64 0, .slice none 0 0] 28)) = w1 at S1 ⊢
  go_upto_region 9 with fail
  have q1 : (8 : Int) ≤ (e : Int) + 8 := by omega
  have S2 := Lib.hid (S1.out.call (Below.drew (Below.refl w1.heap.size w1)))
  go_region_held3 (fun _ => True) (trivial) (first | (go_at_call 155; (with_reducible refine (HST.out _ _ S2.out.below).mono ?_); rintro e w3 ⟨rfl, b3⟩; have S3 := Lib.hid (S2.out.call b3); clear b3; have c2 := S3.out.var.c2; have c3 := S3.out.var.c3; have c4 := S3.out.var.c4; have c5 := S3.out.var.c5; have c6 := S3.out.var.c6; have f2 := S3.out.var.f 2; have f3 := S3.out.var.f 3; have f4 := S3.out.var.f 4; have f5 := S3.out.var.f 5; have f6 := S3.out.var.f 6))
  clear c2 c3 c4 c5 c6 f2 f3 f4 f5 f6
  change Exit.then _ _ _ _ (setFiveAt w3 (w.heap.size + 1) 2 y0 y1 y2 y3 y4)
  have S4 := Lib.hid (S3.out.five y0 y1 y2 y3 y4)
  generalize setFiveAt w3 (w.heap.size + 1) 2 y0 y1 y2 y3 y4 = w4 at S4 ⊢
  clear S1 S2 S3
  have d0 := S4.out.res.c0
  have d1 := S4.out.res.c1
  have d2 := S4.out.res.c2
  have d3 := S4.out.res.c3
  have d4 := S4.out.res.c4
  have d5 := S4.out.res.c5
  have d6 := S4.out.res.c6
  have d7 := S4.out.res.c7
  have f0 := S4.out.res.f 0
  have f1 := S4.out.res.f 1
  have f2 := S4.out.res.f 2
  have f3 := S4.out.res.f 3
  have f4 := S4.out.res.f 4
  have f5 := S4.out.res.f 5
  have f6 := S4.out.res.f 6
  have f7 := S4.out.res.f 7
  go_wp2_with fail
  clear d0 d1 d2 d3 d4 d5 d6 d7 f0 f1 f2 f3 f4 f5 f6 f7
  change bodyPost _ _ _ _ _ (setEight w4 w.heap.size 0 0 0 0 0 0 0 (.slice none 0 0))
  obtain ⟨SF, BF, OF⟩ := S4.out.fin 0 0 0 0 0 0 0 (.slice none 0 0)
  generalize setEight w4 w.heap.size 0 0 0 0 0 0 0 (.slice none 0 0) = wz at SF BF OF ⊢
  have e0 := SF.c0
  have e1 := SF.c1
  have e2 := SF.c2
  have e3 := SF.c3
  have e4 := SF.c4
  have e5 := SF.c5
  have e6 := SF.c6
  have e7 := SF.c7
  exact bodyPost_ret (v := .tuple #[.agg #[.int .i64 0, .int .i64 0, .int .i64 0, .int .i64 0, .int .i64 0, .int .i64 0, .int .i64 0, .slice none 0 0], .bool false]) (by simp [results, Try.results131, go_sem, e0, e1, e2, e3, e4, e5, e6, e7]) rfl ⟨_, _, rfl, Own.nil_, BF⟩
set_option maxHeartbeats 1000000 in
set_option maxRecDepth 100000 in
set_option linter.unusedVariables false in
theorem rd11n_1 (b off e n : Nat) (w : World) (h a q y0 y1 y2 y3 y4 : Int) (d : List Int) (hb : b < w.heap.size) (hc : w.cell? ⟨b, off, none⟩ = some (.int .i64 h)) (hcap : 9 ≤ 0 + 9) (hcap2 : 0 + 9 ≤ 9223372036854775807) (hK : h / 64 = a) (hQ : h / 8 % 8 = q) (hx : hasState a = true) (hy : hasData a = true)
    (hst : ∀ W c, Below w.heap.size w W → Calls Try.prog 155 #[.slice (some ⟨b, off + 1, none⟩) 8 c] W (GivesState W y0 y1 y2 y3 y4)) :
    Calls Try.prog 131 #[.slice (some ⟨b, off, none⟩) (9) (0 + 9)] w (GivesFB w Fr.zero (.bool false)) := by
  have hand := head_and h
  rw [hQ] at hand
  have HX := Lib.hid hx; have HY := Lib.hid hy; have HST := Lib.hid hst; clear hst
  clear hx hy hQ
  go_enter Try.func131, Try.ntmps131
  go_upto_region 3 with fail
  go_quiet (fail)
  go_wp2_with fail
  refine (hasStateAndData_any _ _).mono ?_
  rintro e w1' ⟨rfl, rfl⟩
  rw [HX.out, HY.out]
  have S1 := Lib.hid (ReadSt.start w nq a q)
  generalize (((w.alloc (.cells #[.int .i64 0, .int .i64 0, .int .i64 0, .int .i64 0, .int .i64 0, .int .i64 0, .int .i64 0, .slice none 0 0] 28)).drewN nq).alloc (.cells #[.int .i64 a, .int .i64 q, .int .i64 0, .int .i64 0, .int .i64 0, .int .i64 0, .int .i64 0, .slice none 0 0] 28)) = w1 at S1 ⊢
  go_upto_region 9 with fail
  have q1 : (8 : Int) ≤ (0 : Int) + 8 := by omega
  have S2 := Lib.hid (S1.out.call (Below.drew (Below.refl w1.heap.size w1)))
  go_region_held3 (fun _ => True) (trivial) (first | (go_at_call 155; (with_reducible refine (HST.out _ _ S2.out.below).mono ?_); rintro e w3 ⟨rfl, b3⟩; have S3 := Lib.hid (S2.out.call b3); clear b3; have c2 := S3.out.var.c2; have c3 := S3.out.var.c3; have c4 := S3.out.var.c4; have c5 := S3.out.var.c5; have c6 := S3.out.var.c6; have f2 := S3.out.var.f 2; have f3 := S3.out.var.f 3; have f4 := S3.out.var.f 4; have f5 := S3.out.var.f 5; have f6 := S3.out.var.f 6))
  clear c2 c3 c4 c5 c6 f2 f3 f4 f5 f6
  change Exit.then _ _ _ _ (setFiveAt w3 (w.heap.size + 1) 2 y0 y1 y2 y3 y4)
  have S4 := Lib.hid (S3.out.five y0 y1 y2 y3 y4)
  generalize setFiveAt w3 (w.heap.size + 1) 2 y0 y1 y2 y3 y4 = w4 at S4 ⊢
  clear S1 S2 S3
  have d0 := S4.out.res.c0
  have d1 := S4.out.res.c1
  have d2 := S4.out.res.c2
  have d3 := S4.out.res.c3
  have d4 := S4.out.res.c4
  have d5 := S4.out.res.c5
  have d6 := S4.out.res.c6
  have d7 := S4.out.res.c7
  have f0 := S4.out.res.f 0
  have f1 := S4.out.res.f 1
  have f2 := S4.out.res.f 2
  have f3 := S4.out.res.f 3
  have f4 := S4.out.res.f 4
  have f5 := S4.out.res.f 5
  have f6 := S4.out.res.f 6
  have f7 := S4.out.res.f 7
  go_wp2_with fail
  clear d0 d1 d2 d3 d4 d5 d6 d7 f0 f1 f2 f3 f4 f5 f6 f7
  change bodyPost _ _ _ _ _ (setEight w4 w.heap.size 0 0 0 0 0 0 0 (.slice none 0 0))
  obtain ⟨SF, BF, OF⟩ := S4.out.fin 0 0 0 0 0 0 0 (.slice none 0 0)
  generalize setEight w4 w.heap.size 0 0 0 0 0 0 0 (.slice none 0 0) = wz at SF BF OF ⊢
  have e0 := SF.c0
  have e1 := SF.c1
  have e2 := SF.c2
  have e3 := SF.c3
  have e4 := SF.c4
  have e5 := SF.c5
  have e6 := SF.c6
  have e7 := SF.c7
  exact bodyPost_ret (v := .tuple #[.agg #[.int .i64 0, .int .i64 0, .int .i64 0, .int .i64 0, .int .i64 0, .int .i64 0, .int .i64 0, .slice none 0 0], .bool false]) (by simp [results, Try.results131, go_sem, e0, e1, e2, e3, e4, e5, e6, e7]) rfl ⟨_, _, rfl, Own.nil_, BF⟩
set_option maxHeartbeats 1000000 in
set_option maxRecDepth 100000 in
set_option linter.unusedVariables false in
theorem rd10_0 (b off e n : Nat) (w : World) (h a q y0 y1 y2 y3 y4 : Int) (d : List Int) (hb : b < w.heap.size) (hc : w.cell? ⟨b, off, none⟩ = some (.int .i64 h)) (hcap : n + 9 ≤ e + 9) (hcap2 : e + 9 ≤ 9223372036854775807) (hK : h / 64 = a) (hQ : h / 8 % 8 = q) (hx : hasState a = true) (hy : hasData a = false) (hce : ¬ e = 0)
    (hst : ∀ W c, Below w.heap.size w W → Calls Try.prog 155 #[.slice (some ⟨b, off + 1, none⟩) 8 c] W (GivesState W y0 y1 y2 y3 y4)) :
    Calls Try.prog 131 #[.slice (some ⟨b, off, none⟩) (n + 9) (e + 9)] w (GivesFB w ⟨a, q, y0, y1, y2, y3, y4, []⟩ (.bool true)) := by
  have hand := head_and h
  rw [hQ] at hand
  have HX := Lib.hid hx; have HY := Lib.hid hy; have HST := Lib.hid hst; clear hst
  clear hx hy hQ
  go_enter Try.func131, Try.ntmps131
  go_upto_region 3 with fail
  go_quiet (fail)
  go_wp2_with fail
  refine (hasStateAndData_any _ _).mono ?_
  rintro e w1' ⟨rfl, rfl⟩
  rw [HX.out, HY.out]
  have S1 := Lib.hid (ReadSt.start w nq a q)
  generalize (((w.alloc (.cells #[.int .i64 0, .int .i64 0, .int .i64 0, .int .i64 0, .int .i64 0, .int .i64 0, .int .i64 0, .slice none 0 0] 28)).drewN nq).alloc (.cells #[.int .i64 a, .int .i64 q, .int .i64 0, .int .i64 0, .int .i64 0, .int .i64 0, .int .i64 0, .slice none 0 0] 28)) = w1 at S1 ⊢
  go_upto_region 9 with fail
  have q1 : (8 : Int) ≤ (e : Int) + 8 := by omega
  have S2 := Lib.hid (S1.out.call (Below.drew (Below.refl w1.heap.size w1)))
  go_region_held3 (fun _ => True) (trivial) (first | (go_at_call 155; (with_reducible refine (HST.out _ _ S2.out.below).mono ?_); rintro e w3 ⟨rfl, b3⟩; have S3 := Lib.hid (S2.out.call b3); clear b3; have c2 := S3.out.var.c2; have c3 := S3.out.var.c3; have c4 := S3.out.var.c4; have c5 := S3.out.var.c5; have c6 := S3.out.var.c6; have f2 := S3.out.var.f 2; have f3 := S3.out.var.f 3; have f4 := S3.out.var.f 4; have f5 := S3.out.var.f 5; have f6 := S3.out.var.f 6))
  clear c2 c3 c4 c5 c6 f2 f3 f4 f5 f6
  change Exit.then _ _ _ _ (setFiveAt w3 (w.heap.size + 1) 2 y0 y1 y2 y3 y4)
  have S4 := Lib.hid (S3.out.five y0 y1 y2 y3 y4)
  generalize setFiveAt w3 (w.heap.size + 1) 2 y0 y1 y2 y3 y4 = w4 at S4 ⊢
  clear S1 S2 S3
  have c0 := S4.out.var.c0
  have c1 := S4.out.var.c1
  have c2 := S4.out.var.c2
  have c3 := S4.out.var.c3
  have c4 := S4.out.var.c4
  have c5 := S4.out.var.c5
  have c6 := S4.out.var.c6
  have c7 := S4.out.var.c7
  have d0 := S4.out.res.c0
  have d1 := S4.out.res.c1
  have d2 := S4.out.res.c2
  have d3 := S4.out.res.c3
  have d4 := S4.out.res.c4
  have d5 := S4.out.res.c5
  have d6 := S4.out.res.c6
  have d7 := S4.out.res.c7
  have f0 := S4.out.res.f 0
  have f1 := S4.out.res.f 1
  have f2 := S4.out.res.f 2
  have f3 := S4.out.res.f 3
  have f4 := S4.out.res.f 4
  have f5 := S4.out.res.f 5
  have f6 := S4.out.res.f 6
  have f7 := S4.out.res.f 7
  go_wp2_with fail
  clear c0 c1 c2 c3 c4 c5 c6 c7
  clear d0 d1 d2 d3 d4 d5 d6 d7 f0 f1 f2 f3 f4 f5 f6 f7
  change bodyPost _ _ _ _ _ (setEight w4 w.heap.size a q y0 y1 y2 y3 y4 (.slice none 0 0))
  obtain ⟨SF, BF, OF⟩ := S4.out.fin a q y0 y1 y2 y3 y4 (.slice none 0 0)
  generalize setEight w4 w.heap.size a q y0 y1 y2 y3 y4 (.slice none 0 0) = wz at SF BF OF ⊢
  have e0 := SF.c0
  have e1 := SF.c1
  have e2 := SF.c2
  have e3 := SF.c3
  have e4 := SF.c4
  have e5 := SF.c5
  have e6 := SF.c6
  have e7 := SF.c7
  exact bodyPost_ret (v := .tuple #[.agg #[.int .i64 a, .int .i64 q, .int .i64 y0, .int .i64 y1, .int .i64 y2, .int .i64 y3, .int .i64 y4, .slice none 0 0], .bool true]) (by simp [results, Try.results131, go_sem, e0, e1, e2, e3, e4, e5, e6, e7]) rfl ⟨_, _, rfl, OF, BF⟩
set_option maxHeartbeats 1000000 in
set_option maxRecDepth 100000 in
set_option linter.unusedVariables false in
theorem rd10_1 (b off e n : Nat) (w : World) (h a q y0 y1 y2 y3 y4 : Int) (d : List Int) (hb : b < w.heap.size) (hc : w.cell? ⟨b, off, none⟩ = some (.int .i64 h)) (hcap : n + 9 ≤ 0 + 9) (hcap2 : 0 + 9 ≤ 9223372036854775807) (hK : h / 64 = a) (hQ : h / 8 % 8 = q) (hx : hasState a = true) (hy : hasData a = false)
    (hst : ∀ W c, Below w.heap.size w W → Calls Try.prog 155 #[.slice (some ⟨b, off + 1, none⟩) 8 c] W (GivesState W y0 y1 y2 y3 y4)) :
    Calls Try.prog 131 #[.slice (some ⟨b, off, none⟩) (n + 9) (0 + 9)] w (GivesFB w ⟨a, q, y0, y1, y2, y3, y4, []⟩ (.bool true)) := by
  have hand := head_and h
  rw [hQ] at hand
  have HX := Lib.hid hx; have HY := Lib.hid hy; have HST := Lib.hid hst; clear hst
  clear hx hy hQ
  go_enter Try.func131, Try.ntmps131
  go_upto_region 3 with fail
  go_quiet (fail)
  go_wp2_with fail
  refine (hasStateAndData_any _ _).mono ?_
  rintro e w1' ⟨rfl, rfl⟩
  rw [HX.out, HY.out]
  have S1 := Lib.hid (ReadSt.start w nq a q)
  generalize (((w.alloc (.cells #[.int .i64 0, .int .i64 0, .int .i64 0, .int .i64 0, .int .i64 0, .int .i64 0, .int .i64 0, .slice none 0 0] 28)).drewN nq).alloc (.cells #[.int .i64 a, .int .i64 q, .int .i64 0, .int .i64 0, .int .i64 0, .int .i64 0, .int .i64 0, .slice none 0 0] 28)) = w1 at S1 ⊢
  go_upto_region 9 with fail
  have q1 : (8 : Int) ≤ (0 : Int) + 8 := by omega
  have S2 := Lib.hid (S1.out.call (Below.drew (Below.refl w1.heap.size w1)))
  go_region_held3 (fun _ => True) (trivial) (first | (go_at_call 155; (with_reducible refine (HST.out _ _ S2.out.below).mono ?_); rintro e w3 ⟨rfl, b3⟩; have S3 := Lib.hid (S2.out.call b3); clear b3; have c2 := S3.out.var.c2; have c3 := S3.out.var.c3; have c4 := S3.out.var.c4; have c5 := S3.out.var.c5; have c6 := S3.out.var.c6; have f2 := S3.out.var.f 2; have f3 := S3.out.var.f 3; have f4 := S3.out.var.f 4; have f5 := S3.out.var.f 5; have f6 := S3.out.var.f 6))
  clear c2 c3 c4 c5 c6 f2 f3 f4 f5 f6
  change Exit.then _ _ _ _ (setFiveAt w3 (w.heap.size + 1) 2 y0 y1 y2 y3 y4)
  have S4 := Lib.hid (S3.out.five y0 y1 y2 y3 y4)
  generalize setFiveAt w3 (w.heap.size + 1) 2 y0 y1 y2 y3 y4 = w4 at S4 ⊢
  clear S1 S2 S3
  have c0 := S4.out.var.c0
  have c1 := S4.out.var.c1
  have c2 := S4.out.var.c2
  have c3 := S4.out.var.c3
  have c4 := S4.out.var.c4
  have c5 := S4.out.var.c5
  have c6 := S4.out.var.c6
  have c7 := S4.out.var.c7
  have d0 := S4.out.res.c0
  have d1 := S4.out.res.c1
  have d2 := S4.out.res.c2
  have d3 := S4.out.res.c3
  have d4 := S4.out.res.c4
  have d5 := S4.out.res.c5
  have d6 := S4.out.res.c6
  have d7 := S4.out.res.c7
  have f0 := S4.out.res.f 0
  have f1 := S4.out.res.f 1
  have f2 := S4.out.res.f 2
  have f3 := S4.out.res.f 3
  have f4 := S4.out.res.f 4
  have f5 := S4.out.res.f 5
  have f6 := S4.out.res.f 6
  have f7 := S4.out.res.f 7
  go_wp2_with fail
  clear c0 c1 c2 c3 c4 c5 c6 c7
  clear d0 d1 d2 d3 d4 d5 d6 d7 f0 f1 f2 f3 f4 f5 f6 f7
  change bodyPost _ _ _ _ _ (setEight w4 w.heap.size a q y0 y1 y2 y3 y4 (.slice none 0 0))
  obtain ⟨SF, BF, OF⟩ := S4.out.fin a q y0 y1 y2 y3 y4 (.slice none 0 0)
  generalize setEight w4 w.heap.size a q y0 y1 y2 y3 y4 (.slice none 0 0) = wz at SF BF OF ⊢
  have e0 := SF.c0
  have e1 := SF.c1
  have e2 := SF.c2
  have e3 := SF.c3
  have e4 := SF.c4
  have e5 := SF.c5
  have e6 := SF.c6
  have e7 := SF.c7
  exact bodyPost_ret (v := .tuple #[.agg #[.int .i64 a, .int .i64 q, .int .i64 y0, .int .i64 y1, .int .i64 y2, .int .i64 y3, .int .i64 y4, .slice none 0 0], .bool true]) (by simp [results, Try.results131, go_sem, e0, e1, e2, e3, e4, e5, e6, e7]) rfl ⟨_, _, rfl, OF, BF⟩
set_option maxHeartbeats 1000000 in
set_option maxRecDepth 100000 in
set_option linter.unusedVariables false in
theorem rdS0_0 (b off e n : Nat) (w : World) (h a q y0 y1 y2 y3 y4 : Int) (d : List Int) (hb : b < w.heap.size) (hc : w.cell? ⟨b, off, none⟩ = some (.int .i64 h)) (hcap : n + 1 ≤ e + 1) (hcap2 : e + 1 ≤ 9223372036854775807) (hK : h / 64 = a) (hQ : h / 8 % 8 = q) (hx : hasState a = true) (hy : hasData a = false) (hce : ¬ e = 0) (hsmall : n < 8)
    :
    Calls Try.prog 131 #[.slice (some ⟨b, off, none⟩) (n + 1) (e + 1)] w (GivesFB w Fr.zero (.bool false)) := by
  have hand := head_and h
  rw [hQ] at hand
  have HX := Lib.hid hx; have HY := Lib.hid hy
  clear hx hy hQ
  go_enter Try.func131, Try.ntmps131
  go_upto_region 3 with fail
  go_quiet (fail)
  go_wp2_with fail
  refine (hasStateAndData_any _ _).mono ?_
  rintro e w1' ⟨rfl, rfl⟩
  rw [HX.out, HY.out]
  have S1 := Lib.hid (ReadSt.start w nq a q)
  generalize (((w.alloc (.cells #[.int .i64 0, .int .i64 0, .int .i64 0, .int .i64 0, .int .i64 0, .int .i64 0, .int .i64 0, .slice none 0 0] 28)).drewN nq).alloc (.cells #[.int .i64 a, .int .i64 q, .int .i64 0, .int .i64 0, .int .i64 0, .int .i64 0, .int .i64 0, .slice none 0 0] 28)) = w1 at S1 ⊢
  have d0 := S1.out.res.c0
  have d1 := S1.out.res.c1
  have d2 := S1.out.res.c2
  have d3 := S1.out.res.c3
  have d4 := S1.out.res.c4
  have d5 := S1.out.res.c5
  have d6 := S1.out.res.c6
  have d7 := S1.out.res.c7
  have f0 := S1.out.res.f 0
  have f1 := S1.out.res.f 1
  have f2 := S1.out.res.f 2
  have f3 := S1.out.res.f 3
  have f4 := S1.out.res.f 4
  have f5 := S1.out.res.f 5
  have f6 := S1.out.res.f 6
  have f7 := S1.out.res.f 7
  go_wp2_with fail
  clear d0 d1 d2 d3 d4 d5 d6 d7 f0 f1 f2 f3 f4 f5 f6 f7
  change bodyPost _ _ _ _ _ (setEight w1 w.heap.size 0 0 0 0 0 0 0 (.slice none 0 0))
  obtain ⟨SF, BF, OF⟩ := S1.out.fin 0 0 0 0 0 0 0 (.slice none 0 0)
  generalize setEight w1 w.heap.size 0 0 0 0 0 0 0 (.slice none 0 0) = wz at SF BF OF ⊢
  have e0 := SF.c0
  have e1 := SF.c1
  have e2 := SF.c2
  have e3 := SF.c3
  have e4 := SF.c4
  have e5 := SF.c5
  have e6 := SF.c6
  have e7 := SF.c7
  exact bodyPost_ret (v := .tuple #[.agg #[.int .i64 0, .int .i64 0, .int .i64 0, .int .i64 0, .int .i64 0, .int .i64 0, .int .i64 0, .slice none 0 0], .bool false]) (by simp [results, Try.results131, go_sem, e0, e1, e2, e3, e4, e5, e6, e7]) rfl ⟨_, _, rfl, Own.nil_, BF⟩
set_option maxHeartbeats 1000000 in
set_option maxRecDepth 100000 in
set_option linter.unusedVariables false in
theorem rdS1_0 (b off e n : Nat) (w : World) (h a q y0 y1 y2 y3 y4 : Int) (d : List Int) (hb : b < w.heap.size) (hc : w.cell? ⟨b, off, none⟩ = some (.int .i64 h)) (hcap : n + 1 ≤ e + 1) (hcap2 : e + 1 ≤ 9223372036854775807) (hK : h / 64 = a) (hQ : h / 8 % 8 = q) (hx : hasState a = true) (hy : hasData a = true) (hce : ¬ e = 0) (hsmall : n < 8)
    :
    Calls Try.prog 131 #[.slice (some ⟨b, off, none⟩) (n + 1) (e + 1)] w (GivesFB w Fr.zero (.bool false)) := by
  have hand := head_and h
  rw [hQ] at hand
  have HX := Lib.hid hx; have HY := Lib.hid hy
  clear hx hy hQ
  go_enter Try.func131, Try.ntmps131
  go_upto_region 3 with fail
  go_quiet (fail)
  go_wp2_with fail
  refine (hasStateAndData_any _ _).mono ?_
  rintro e w1' ⟨rfl, rfl⟩
  rw [HX.out, HY.out]
  have S1 := Lib.hid (ReadSt.start w nq a q)
  generalize (((w.alloc (.cells #[.int .i64 0, .int .i64 0, .int .i64 0, .int .i64 0, .int .i64 0, .int .i64 0, .int .i64 0, .slice none 0 0] 28)).drewN nq).alloc (.cells #[.int .i64 a, .int .i64 q, .int .i64 0, .int .i64 0, .int .i64 0, .int .i64 0, .int .i64 0, .slice none 0 0] 28)) = w1 at S1 ⊢
  have d0 := S1.out.res.c0
  have d1 := S1.out.res.c1
  have d2 := S1.out.res.c2
  have d3 := S1.out.res.c3
  have d4 := S1.out.res.c4
  have d5 := S1.out.res.c5
  have d6 := S1.out.res.c6
  have d7 := S1.out.res.c7
  have f0 := S1.out.res.f 0
  have f1 := S1.out.res.f 1
  have f2 := S1.out.res.f 2
  have f3 := S1.out.res.f 3
  have f4 := S1.out.res.f 4
  have f5 := S1.out.res.f 5
  have f6 := S1.out.res.f 6
  have f7 := S1.out.res.f 7
  go_wp2_with fail
  clear d0 d1 d2 d3 d4 d5 d6 d7 f0 f1 f2 f3 f4 f5 f6 f7
  change bodyPost _ _ _ _ _ (setEight w1 w.heap.size 0 0 0 0 0 0 0 (.slice none 0 0))
  obtain ⟨SF, BF, OF⟩ := S1.out.fin 0 0 0 0 0 0 0 (.slice none 0 0)
  generalize setEight w1 w.heap.size 0 0 0 0 0 0 0 (.slice none 0 0) = wz at SF BF OF ⊢
  have e0 := SF.c0
  have e1 := SF.c1
  have e2 := SF.c2
  have e3 := SF.c3
  have e4 := SF.c4
  have e5 := SF.c5
  have e6 := SF.c6
  have e7 := SF.c7
  exact bodyPost_ret (v := .tuple #[.agg #[.int .i64 0, .int .i64 0, .int .i64 0, .int .i64 0, .int .i64 0, .int .i64 0, .int .i64 0, .slice none 0 0], .bool false]) (by simp [results, Try.results131, go_sem, e0, e1, e2, e3, e4, e5, e6, e7]) rfl ⟨_, _, rfl, Own.nil_, BF⟩
set_option maxHeartbeats 1000000 in
set_option maxRecDepth 100000 in
set_option linter.unusedVariables false in
theorem rdS0_1 (b off e n : Nat) (w : World) (h a q y0 y1 y2 y3 y4 : Int) (d : List Int) (hb : b < w.heap.size) (hc : w.cell? ⟨b, off, none⟩ = some (.int .i64 h)) (hcap : n + 1 ≤ 0 + 1) (hcap2 : 0 + 1 ≤ 9223372036854775807) (hK : h / 64 = a) (hQ : h / 8 % 8 = q) (hx : hasState a = true) (hy : hasData a = false) (hsmall : n < 8)
    :
    Calls Try.prog 131 #[.slice (some ⟨b, off, none⟩) (n + 1) (0 + 1)] w (GivesFB w Fr.zero (.bool false)) := by
  have hand := head_and h
  rw [hQ] at hand
  have HX := Lib.hid hx; have HY := Lib.hid hy
  clear hx hy hQ
  go_enter Try.func131, Try.ntmps131
  go_upto_region 3 with fail
  go_quiet (fail)
  go_wp2_with fail
  refine (hasStateAndData_any _ _).mono ?_
  rintro e w1' ⟨rfl, rfl⟩
  rw [HX.out, HY.out]
  have S1 := Lib.hid (ReadSt.start w nq a q)
  generalize (((w.alloc (.cells #[.int .i64 0, .int .i64 0, .int .i64 0, .int .i64 0, .int .i64 0, .int .i64 0, .int .i64 0, .slice none 0 0] 28)).drewN nq).alloc (.cells #[.int .i64 a, .int .i64 q, .int .i64 0, .int .i64 0, .int .i64 0, .int .i64 0, .int .i64 0, .slice none 0 0] 28)) = w1 at S1 ⊢
  have d0 := S1.out.res.c0
  have d1 := S1.out.res.c1
  have d2 := S1.out.res.c2
  have d3 := S1.out.res.c3
  have d4 := S1.out.res.c4
  have d5 := S1.out.res.c5
  have d6 := S1.out.res.c6
  have d7 := S1.out.res.c7
  have f0 := S1.out.res.f 0
  have f1 := S1.out.res.f 1
  have f2 := S1.out.res.f 2
  have f3 := S1.out.res.f 3
  have f4 := S1.out.res.f 4
  have f5 := S1.out.res.f 5
  have f6 := S1.out.res.f 6
  have f7 := S1.out.res.f 7
  go_wp2_with fail
  clear d0 d1 d2 d3 d4 d5 d6 d7 f0 f1 f2 f3 f4 f5 f6 f7
  change bodyPost _ _ _ _ _ (setEight w1 w.heap.size 0 0 0 0 0 0 0 (.slice none 0 0))
  obtain ⟨SF, BF, OF⟩ := S1.out.fin 0 0 0 0 0 0 0 (.slice none 0 0)
  generalize setEight w1 w.heap.size 0 0 0 0 0 0 0 (.slice none 0 0) = wz at SF BF OF ⊢
  have e0 := SF.c0
  have e1 := SF.c1
  have e2 := SF.c2
  have e3 := SF.c3
  have e4 := SF.c4
  have e5 := SF.c5
  have e6 := SF.c6
  have e7 := SF.c7
  exact bodyPost_ret (v := .tuple #[.agg #[.int .i64 0, .int .i64 0, .int .i64 0, .int .i64 0, .int .i64 0, .int .i64 0, .int .i64 0, .slice none 0 0], .bool false]) (by simp [results, Try.results131, go_sem, e0, e1, e2, e3, e4, e5, e6, e7]) rfl ⟨_, _, rfl, Own.nil_, BF⟩
set_option maxHeartbeats 1000000 in
set_option maxRecDepth 100000 in
set_option linter.unusedVariables false in
theorem rdS1_1 (b off e n : Nat) (w : World) (h a q y0 y1 y2 y3 y4 : Int) (d : List Int) (hb : b < w.heap.size) (hc : w.cell? ⟨b, off, none⟩ = some (.int .i64 h)) (hcap : n + 1 ≤ 0 + 1) (hcap2 : 0 + 1 ≤ 9223372036854775807) (hK : h / 64 = a) (hQ : h / 8 % 8 = q) (hx : hasState a = true) (hy : hasData a = true) (hsmall : n < 8)
    :
    Calls Try.prog 131 #[.slice (some ⟨b, off, none⟩) (n + 1) (0 + 1)] w (GivesFB w Fr.zero (.bool false)) := by
  have hand := head_and h
  rw [hQ] at hand
  have HX := Lib.hid hx; have HY := Lib.hid hy
  clear hx hy hQ
  go_enter Try.func131, Try.ntmps131
  go_upto_region 3 with fail
  go_quiet (fail)
  go_wp2_with fail
  refine (hasStateAndData_any _ _).mono ?_
  rintro e w1' ⟨rfl, rfl⟩
  rw [HX.out, HY.out]
  have S1 := Lib.hid (ReadSt.start w nq a q)
  generalize (((w.alloc (.cells #[.int .i64 0, .int .i64 0, .int .i64 0, .int .i64 0, .int .i64 0, .int .i64 0, .int .i64 0, .slice none 0 0] 28)).drewN nq).alloc (.cells #[.int .i64 a, .int .i64 q, .int .i64 0, .int .i64 0, .int .i64 0, .int .i64 0, .int .i64 0, .slice none 0 0] 28)) = w1 at S1 ⊢
  have d0 := S1.out.res.c0
  have d1 := S1.out.res.c1
  have d2 := S1.out.res.c2
  have d3 := S1.out.res.c3
  have d4 := S1.out.res.c4
  have d5 := S1.out.res.c5
  have d6 := S1.out.res.c6
  have d7 := S1.out.res.c7
  have f0 := S1.out.res.f 0
  have f1 := S1.out.res.f 1
  have f2 := S1.out.res.f 2
  have f3 := S1.out.res.f 3
  have f4 := S1.out.res.f 4
  have f5 := S1.out.res.f 5
  have f6 := S1.out.res.f 6
  have f7 := S1.out.res.f 7
  go_wp2_with fail
  clear d0 d1 d2 d3 d4 d5 d6 d7 f0 f1 f2 f3 f4 f5 f6 f7
  change bodyPost _ _ _ _ _ (setEight w1 w.heap.size 0 0 0 0 0 0 0 (.slice none 0 0))
  obtain ⟨SF, BF, OF⟩ := S1.out.fin 0 0 0 0 0 0 0 (.slice none 0 0)
  generalize setEight w1 w.heap.size 0 0 0 0 0 0 0 (.slice none 0 0) = wz at SF BF OF ⊢
  have e0 := SF.c0
  have e1 := SF.c1
  have e2 := SF.c2
  have e3 := SF.c3
  have e4 := SF.c4
  have e5 := SF.c5
  have e6 := SF.c6
  have e7 := SF.c7
  exact bodyPost_ret (v := .tuple #[.agg #[.int .i64 0, .int .i64 0, .int .i64 0, .int .i64 0, .int .i64 0, .int .i64 0, .int .i64 0, .slice none 0 0], .bool false]) (by simp [results, Try.results131, go_sem, e0, e1, e2, e3, e4, e5, e6, e7]) rfl ⟨_, _, rfl, Own.nil_, BF⟩
set_option maxHeartbeats 1000000 in
set_option maxRecDepth 100000 in
set_option linter.unusedVariables false in
theorem rd01_0 (b off e n : Nat) (w : World) (h a q y0 y1 y2 y3 y4 : Int) (d : List Int) (hb : b < w.heap.size) (hc : w.cell? ⟨b, off, none⟩ = some (.int .i64 h)) (hcap : d.length + 2 ≤ e + 1) (hcap2 : e + 1 ≤ 9223372036854775807) (hK : h / 64 = a) (hQ : h / 8 % 8 = q) (hx : hasState a = false) (hy : hasData a = true) (hce : ¬ e = 1) (hdl : d.length ≤ 1024)
    (hd : ∀ W o', Below w.heap.size w W → (o' = off + 2 ∨ d = []) → Rd W (some ⟨b, o', none⟩) d.length d) :
    Calls Try.prog 131 #[.slice (some ⟨b, off, none⟩) (d.length + 2) (e + 1)] w (GivesFB w ⟨a, q, 0, 0, 0, 0, 0, d⟩ (.bool true)) := by
  have hand := head_and h
  rw [hQ] at hand
  have HX := Lib.hid hx; have HY := Lib.hid hy; have HD := Lib.hid hd; clear hd
  clear hx hy hQ
  go_enter Try.func131, Try.ntmps131
  go_upto_region 3 with fail
  go_quiet (fail)
  go_wp2_with fail
  refine (hasStateAndData_any _ _).mono ?_
  rintro e w1' ⟨rfl, rfl⟩
  rw [HX.out, HY.out]
  have S1 := Lib.hid (ReadSt.start w nq a q)
  generalize (((w.alloc (.cells #[.int .i64 0, .int .i64 0, .int .i64 0, .int .i64 0, .int .i64 0, .int .i64 0, .int .i64 0, .slice none 0 0] 28)).drewN nq).alloc (.cells #[.int .i64 a, .int .i64 q, .int .i64 0, .int .i64 0, .int .i64 0, .int .i64 0, .int .i64 0, .slice none 0 0] 28)) = w1 at S1 ⊢
  go_upto_region 14 with (at_builtin; refine append_list _ rfl (.tmp 46) (.tmp 48) rfl (w.heap.size + 1 + 1) Try.underlying26 info64 _ [] rfl (Own.of_alloc_nil S1.out.size) _ _ _ d rfl (HD.out _ _ (S1.out.below.alloc S1.out.le _) (.inl (by omega))) (by simp; omega) (by have := S1.out.size; simp; omega) ?_; intro v5 w5 o5 b5; have S5 := Lib.hid ((S1.out.call ((Below.refl _ _).alloc (Nat.le_refl _) _)).app b5); obtain ⟨p5, cp5, rfl, o5', -⟩ := o5.get; have O5 := Lib.hid o5'; clear o5 o5' b5; have g7 := S5.out.var.c7; have gf := S5.out.var.f 7)
  clear g7 gf
  have S6 := Lib.hid (S5.out.data O5.out)
  rw [List.nil_append] at S6
  generalize World.setCell w5 ⟨w.heap.size + 1, 7, none⟩ _ = w6 at S6 ⊢
  have c0 := S6.out.var.c0
  have c1 := S6.out.var.c1
  have c2 := S6.out.var.c2
  have c3 := S6.out.var.c3
  have c4 := S6.out.var.c4
  have c5 := S6.out.var.c5
  have c6 := S6.out.var.c6
  have c7 := S6.out.var.c7
  have d0 := S6.out.res.c0
  have d1 := S6.out.res.c1
  have d2 := S6.out.res.c2
  have d3 := S6.out.res.c3
  have d4 := S6.out.res.c4
  have d5 := S6.out.res.c5
  have d6 := S6.out.res.c6
  have d7 := S6.out.res.c7
  have f0 := S6.out.res.f 0
  have f1 := S6.out.res.f 1
  have f2 := S6.out.res.f 2
  have f3 := S6.out.res.f 3
  have f4 := S6.out.res.f 4
  have f5 := S6.out.res.f 5
  have f6 := S6.out.res.f 6
  have f7 := S6.out.res.f 7
  go_wp2_with fail
  clear c0 c1 c2 c3 c4 c5 c6 c7
  clear d0 d1 d2 d3 d4 d5 d6 d7 f0 f1 f2 f3 f4 f5 f6 f7
  change bodyPost _ _ _ _ _ (setEight w6 w.heap.size a q 0 0 0 0 0 (.slice p5 d.length cp5))
  obtain ⟨SF, BF, OF⟩ := S6.out.fin a q 0 0 0 0 0 (.slice p5 d.length cp5)
  generalize setEight w6 w.heap.size a q 0 0 0 0 0 (.slice p5 d.length cp5) = wz at SF BF OF ⊢
  have e0 := SF.c0
  have e1 := SF.c1
  have e2 := SF.c2
  have e3 := SF.c3
  have e4 := SF.c4
  have e5 := SF.c5
  have e6 := SF.c6
  have e7 := SF.c7
  exact bodyPost_ret (v := .tuple #[.agg #[.int .i64 a, .int .i64 q, .int .i64 0, .int .i64 0, .int .i64 0, .int .i64 0, .int .i64 0, .slice p5 d.length cp5], .bool true]) (by simp [results, Try.results131, go_sem, e0, e1, e2, e3, e4, e5, e6, e7]) rfl ⟨_, _, rfl, OF, BF⟩
set_option maxHeartbeats 1000000 in
set_option maxRecDepth 100000 in
set_option linter.unusedVariables false in
theorem rd01_1 (b off e n : Nat) (w : World) (h a q y0 y1 y2 y3 y4 : Int) (d : List Int) (hb : b < w.heap.size) (hc : w.cell? ⟨b, off, none⟩ = some (.int .i64 h)) (hcap : d.length + 2 ≤ 1 + 1) (hcap2 : 1 + 1 ≤ 9223372036854775807) (hK : h / 64 = a) (hQ : h / 8 % 8 = q) (hx : hasState a = false) (hy : hasData a = true) (hdl : d.length ≤ 1024)
    (hd : ∀ W o', Below w.heap.size w W → (o' = off + 2 ∨ d = []) → Rd W (some ⟨b, o', none⟩) d.length d) :
    Calls Try.prog 131 #[.slice (some ⟨b, off, none⟩) (d.length + 2) (1 + 1)] w (GivesFB w ⟨a, q, 0, 0, 0, 0, 0, d⟩ (.bool true)) := by
  have hand := head_and h
  rw [hQ] at hand
  have HX := Lib.hid hx; have HY := Lib.hid hy; have HD := Lib.hid hd; clear hd
  clear hx hy hQ
  go_enter Try.func131, Try.ntmps131
  go_upto_region 3 with fail
  go_quiet (fail)
  go_wp2_with fail
  refine (hasStateAndData_any _ _).mono ?_
  rintro e w1' ⟨rfl, rfl⟩
  rw [HX.out, HY.out]
  have S1 := Lib.hid (ReadSt.start w nq a q)
  generalize (((w.alloc (.cells #[.int .i64 0, .int .i64 0, .int .i64 0, .int .i64 0, .int .i64 0, .int .i64 0, .int .i64 0, .slice none 0 0] 28)).drewN nq).alloc (.cells #[.int .i64 a, .int .i64 q, .int .i64 0, .int .i64 0, .int .i64 0, .int .i64 0, .int .i64 0, .slice none 0 0] 28)) = w1 at S1 ⊢
  go_upto_region 14 with (at_builtin; refine append_list _ rfl (.tmp 46) (.tmp 48) rfl (w.heap.size + 1 + 1) Try.underlying26 info64 _ [] rfl (Own.of_alloc_nil S1.out.size) _ _ _ d rfl (HD.out _ _ (S1.out.below.alloc S1.out.le _) (.inr (List.length_eq_zero_iff.1 (by omega)))) (by simp; omega) (by have := S1.out.size; simp; omega) ?_; intro v5 w5 o5 b5; have S5 := Lib.hid ((S1.out.call ((Below.refl _ _).alloc (Nat.le_refl _) _)).app b5); obtain ⟨p5, cp5, rfl, o5', -⟩ := o5.get; have O5 := Lib.hid o5'; clear o5 o5' b5; have g7 := S5.out.var.c7; have gf := S5.out.var.f 7)
  clear g7 gf
  have S6 := Lib.hid (S5.out.data O5.out)
  rw [List.nil_append] at S6
  generalize World.setCell w5 ⟨w.heap.size + 1, 7, none⟩ _ = w6 at S6 ⊢
  have c0 := S6.out.var.c0
  have c1 := S6.out.var.c1
  have c2 := S6.out.var.c2
  have c3 := S6.out.var.c3
  have c4 := S6.out.var.c4
  have c5 := S6.out.var.c5
  have c6 := S6.out.var.c6
  have c7 := S6.out.var.c7
  have d0 := S6.out.res.c0
  have d1 := S6.out.res.c1
  have d2 := S6.out.res.c2
  have d3 := S6.out.res.c3
  have d4 := S6.out.res.c4
  have d5 := S6.out.res.c5
  have d6 := S6.out.res.c6
  have d7 := S6.out.res.c7
  have f0 := S6.out.res.f 0
  have f1 := S6.out.res.f 1
  have f2 := S6.out.res.f 2
  have f3 := S6.out.res.f 3
  have f4 := S6.out.res.f 4
  have f5 := S6.out.res.f 5
  have f6 := S6.out.res.f 6
  have f7 := S6.out.res.f 7
  go_wp2_with fail
  clear c0 c1 c2 c3 c4 c5 c6 c7
  clear d0 d1 d2 d3 d4 d5 d6 d7 f0 f1 f2 f3 f4 f5 f6 f7
  change bodyPost _ _ _ _ _ (setEight w6 w.heap.size a q 0 0 0 0 0 (.slice p5 d.length cp5))
  obtain ⟨SF, BF, OF⟩ := S6.out.fin a q 0 0 0 0 0 (.slice p5 d.length cp5)
  generalize setEight w6 w.heap.size a q 0 0 0 0 0 (.slice p5 d.length cp5) = wz at SF BF OF ⊢
  have e0 := SF.c0
  have e1 := SF.c1
  have e2 := SF.c2
  have e3 := SF.c3
  have e4 := SF.c4
  have e5 := SF.c5
  have e6 := SF.c6
  have e7 := SF.c7
  exact bodyPost_ret (v := .tuple #[.agg #[.int .i64 a, .int .i64 q, .int .i64 0, .int .i64 0, .int .i64 0, .int .i64 0, .int .i64 0, .slice p5 d.length cp5], .bool true]) (by simp [results, Try.results131, go_sem, e0, e1, e2, e3, e4, e5, e6, e7]) rfl ⟨_, _, rfl, OF, BF⟩
set_option maxHeartbeats 1000000 in
set_option maxRecDepth 100000 in
set_option linter.unusedVariables false in
theorem rd01n_0 (b off e n : Nat) (w : World) (h a q y0 y1 y2 y3 y4 : Int) (d : List Int) (hb : b < w.heap.size) (hc : w.cell? ⟨b, off, none⟩ = some (.int .i64 h)) (hcap : 1 ≤ e + 1) (hcap2 : e + 1 ≤ 9223372036854775807) (hK : h / 64 = a) (hQ : h / 8 % 8 = q) (hx : hasState a = false) (hy : hasData a = true) (hce : ¬ e = 0)
    :
    Calls Try.prog 131 #[.slice (some ⟨b, off, none⟩) (1) (e + 1)] w (GivesFB w Fr.zero (.bool false)) := by
  have hand := head_and h
  rw [hQ] at hand
  have HX := Lib.hid hx; have HY := Lib.hid hy
  clear hx hy hQ
  go_enter Try.func131, Try.ntmps131
  go_upto_region 3 with fail
  go_quiet (fail)
  go_wp2_with fail
  refine (hasStateAndData_any _ _).mono ?_
  rintro e w1' ⟨rfl, rfl⟩
  rw [HX.out, HY.out]
  have S1 := Lib.hid (ReadSt.start w nq a q)
  generalize (((w.alloc (.cells #[.int .i64 0, .int .i64 0, .int .i64 0, .int .i64 0, .int .i64 0, .int .i64 0, .int .i64 0, .slice none 0 0] 28)).drewN nq).alloc (.cells #[.int .i64 a, .int .i64 q, .int .i64 0, .int .i64 0, .int .i64 0, .int .i64 0, .int .i64 0, .slice none 0 0] 28)) = w1 at S1 ⊢
  have d0 := S1.out.res.c0
  have d1 := S1.out.res.c1
  have d2 := S1.out.res.c2
  have d3 := S1.out.res.c3
  have d4 := S1.out.res.c4
  have d5 := S1.out.res.c5
  have d6 := S1.out.res.c6
  have d7 := S1.out.res.c7
  have f0 := S1.out.res.f 0
  have f1 := S1.out.res.f 1
  have f2 := S1.out.res.f 2
  have f3 := S1.out.res.f 3
  have f4 := S1.out.res.f 4
  have f5 := S1.out.res.f 5
  have f6 := S1.out.res.f 6
  have f7 := S1.out.res.f 7
  go_wp2_with fail
  clear d0 d1 d2 d3 d4 d5 d6 d7 f0 f1 f2 f3 f4 f5 f6 f7
  change bodyPost _ _ _ _ _ (setEight w1 w.heap.size 0 0 0 0 0 0 0 (.slice none 0 0))
  obtain ⟨SF, BF, OF⟩ := S1.out.fin 0 0 0 0 0 0 0 (.slice none 0 0)
  generalize setEight w1 w.heap.size 0 0 0 0 0 0 0 (.slice none 0 0) = wz at SF BF OF ⊢
  have e0 := SF.c0
  have e1 := SF.c1
  have e2 := SF.c2
  have e3 := SF.c3
  have e4 := SF.c4
  have e5 := SF.c5
  have e6 := SF.c6
  have e7 := SF.c7
  exact bodyPost_ret (v := .tuple #[.agg #[.int .i64 0, .int .i64 0, .int .i64 0, .int .i64 0, .int .i64 0, .int .i64 0, .int .i64 0, .slice none 0 0], .bool false]) (by simp [results, Try.results131, go_sem, e0, e1, e2, e3, e4, e5, e6, e7]) rfl ⟨_, _, rfl, Own.nil_, BF⟩
set_option maxHeartbeats 1000000 in
set_option maxRecDepth 100000 in
set_option linter.unusedVariables false in
theorem rd01n_1 (b off e n : Nat) (w : World) (h a q y0 y1 y2 y3 y4 : Int) (d : List Int) (hb : b < w.heap.size) (hc : w.cell? ⟨b, off, none⟩ = some (.int .i64 h)) (hcap : 1 ≤ 0 + 1) (hcap2 : 0 + 1 ≤ 9223372036854775807) (hK : h / 64 = a) (hQ : h / 8 % 8 = q) (hx : hasState a = false) (hy : hasData a = true)
    :
    Calls Try.prog 131 #[.slice (some ⟨b, off, none⟩) (1) (0 + 1)] w (GivesFB w Fr.zero (.bool false)) := by
  have hand := head_and h
  rw [hQ] at hand
  have HX := Lib.hid hx; have HY := Lib.hid hy
  clear hx hy hQ
  go_enter Try.func131, Try.ntmps131
  go_upto_region 3 with fail
  go_quiet (fail)
  go_wp2_with fail
  refine (hasStateAndData_any _ _).mono ?_
  rintro e w1' ⟨rfl, rfl⟩
  rw [HX.out, HY.out]
  have S1 := Lib.hid (ReadSt.start w nq a q)
  generalize (((w.alloc (.cells #[.int .i64 0, .int .i64 0, .int .i64 0, .int .i64 0, .int .i64 0, .int .i64 0, .int .i64 0, .slice none 0 0] 28)).drewN nq).alloc (.cells #[.int .i64 a, .int .i64 q, .int .i64 0, .int .i64 0, .int .i64 0, .int .i64 0, .int .i64 0, .slice none 0 0] 28)) = w1 at S1 ⊢
  have d0 := S1.out.res.c0
  have d1 := S1.out.res.c1
  have d2 := S1.out.res.c2
  have d3 := S1.out.res.c3
  have d4 := S1.out.res.c4
  have d5 := S1.out.res.c5
  have d6 := S1.out.res.c6
  have d7 := S1.out.res.c7
  have f0 := S1.out.res.f 0
  have f1 := S1.out.res.f 1
  have f2 := S1.out.res.f 2
  have f3 := S1.out.res.f 3
  have f4 := S1.out.res.f 4
  have f5 := S1.out.res.f 5
  have f6 := S1.out.res.f 6
  have f7 := S1.out.res.f 7
  go_wp2_with fail
  clear d0 d1 d2 d3 d4 d5 d6 d7 f0 f1 f2 f3 f4 f5 f6 f7
  change bodyPost _ _ _ _ _ (setEight w1 w.heap.size 0 0 0 0 0 0 0 (.slice none 0 0))
  obtain ⟨SF, BF, OF⟩ := S1.out.fin 0 0 0 0 0 0 0 (.slice none 0 0)
  generalize setEight w1 w.heap.size 0 0 0 0 0 0 0 (.slice none 0 0) = wz at SF BF OF ⊢
  have e0 := SF.c0
  have e1 := SF.c1
  have e2 := SF.c2
  have e3 := SF.c3
  have e4 := SF.c4
  have e5 := SF.c5
  have e6 := SF.c6
  have e7 := SF.c7
  exact bodyPost_ret (v := .tuple #[.agg #[.int .i64 0, .int .i64 0, .int .i64 0, .int .i64 0, .int .i64 0, .int .i64 0, .int .i64 0, .slice none 0 0], .bool false]) (by simp [results, Try.results131, go_sem, e0, e1, e2, e3, e4, e5, e6, e7]) rfl ⟨_, _, rfl, Own.nil_, BF⟩
set_option maxHeartbeats 1000000 in
set_option maxRecDepth 100000 in
set_option linter.unusedVariables false in
theorem rd00_0 (b off e n : Nat) (w : World) (h a q y0 y1 y2 y3 y4 : Int) (d : List Int) (hb : b < w.heap.size) (hc : w.cell? ⟨b, off, none⟩ = some (.int .i64 h)) (hcap : n + 1 ≤ e + 1) (hcap2 : e + 1 ≤ 9223372036854775807) (hK : h / 64 = a) (hQ : h / 8 % 8 = q) (hx : hasState a = false) (hy : hasData a = false) (hce : ¬ e = 0)
    :
    Calls Try.prog 131 #[.slice (some ⟨b, off, none⟩) (n + 1) (e + 1)] w (GivesFB w ⟨a, q, 0, 0, 0, 0, 0, []⟩ (.bool true)) := by
  have hand := head_and h
  rw [hQ] at hand
  have HX := Lib.hid hx; have HY := Lib.hid hy
  clear hx hy hQ
  go_enter Try.func131, Try.ntmps131
  go_upto_region 3 with fail
  go_quiet (fail)
  go_wp2_with fail
  refine (hasStateAndData_any _ _).mono ?_
  rintro e w1' ⟨rfl, rfl⟩
  rw [HX.out, HY.out]
  have S1 := Lib.hid (ReadSt.start w nq a q)
  generalize (((w.alloc (.cells #[.int .i64 0, .int .i64 0, .int .i64 0, .int .i64 0, .int .i64 0, .int .i64 0, .int .i64 0, .slice none 0 0] 28)).drewN nq).alloc (.cells #[.int .i64 a, .int .i64 q, .int .i64 0, .int .i64 0, .int .i64 0, .int .i64 0, .int .i64 0, .slice none 0 0] 28)) = w1 at S1 ⊢
  have c0 := S1.out.var.c0
  have c1 := S1.out.var.c1
  have c2 := S1.out.var.c2
  have c3 := S1.out.var.c3
  have c4 := S1.out.var.c4
  have c5 := S1.out.var.c5
  have c6 := S1.out.var.c6
  have c7 := S1.out.var.c7
  have d0 := S1.out.res.c0
  have d1 := S1.out.res.c1
  have d2 := S1.out.res.c2
  have d3 := S1.out.res.c3
  have d4 := S1.out.res.c4
  have d5 := S1.out.res.c5
  have d6 := S1.out.res.c6
  have d7 := S1.out.res.c7
  have f0 := S1.out.res.f 0
  have f1 := S1.out.res.f 1
  have f2 := S1.out.res.f 2
  have f3 := S1.out.res.f 3
  have f4 := S1.out.res.f 4
  have f5 := S1.out.res.f 5
  have f6 := S1.out.res.f 6
  have f7 := S1.out.res.f 7
  go_wp2_with fail
  clear c0 c1 c2 c3 c4 c5 c6 c7
  clear d0 d1 d2 d3 d4 d5 d6 d7 f0 f1 f2 f3 f4 f5 f6 f7
  change bodyPost _ _ _ _ _ (setEight w1 w.heap.size a q 0 0 0 0 0 (.slice none 0 0))
  obtain ⟨SF, BF, OF⟩ := S1.out.fin a q 0 0 0 0 0 (.slice none 0 0)
  generalize setEight w1 w.heap.size a q 0 0 0 0 0 (.slice none 0 0) = wz at SF BF OF ⊢
  have e0 := SF.c0
  have e1 := SF.c1
  have e2 := SF.c2
  have e3 := SF.c3
  have e4 := SF.c4
  have e5 := SF.c5
  have e6 := SF.c6
  have e7 := SF.c7
  exact bodyPost_ret (v := .tuple #[.agg #[.int .i64 a, .int .i64 q, .int .i64 0, .int .i64 0, .int .i64 0, .int .i64 0, .int .i64 0, .slice none 0 0], .bool true]) (by simp [results, Try.results131, go_sem, e0, e1, e2, e3, e4, e5, e6, e7]) rfl ⟨_, _, rfl, OF, BF⟩
set_option maxHeartbeats 1000000 in
set_option maxRecDepth 100000 in
set_option linter.unusedVariables false in
theorem rd00_1 (b off e n : Nat) (w : World) (h a q y0 y1 y2 y3 y4 : Int) (d : List Int) (hb : b < w.heap.size) (hc : w.cell? ⟨b, off, none⟩ = some (.int .i64 h)) (hcap : n + 1 ≤ 0 + 1) (hcap2 : 0 + 1 ≤ 9223372036854775807) (hK : h / 64 = a) (hQ : h / 8 % 8 = q) (hx : hasState a = false) (hy : hasData a = false)
    :
    Calls Try.prog 131 #[.slice (some ⟨b, off, none⟩) (n + 1) (0 + 1)] w (GivesFB w ⟨a, q, 0, 0, 0, 0, 0, []⟩ (.bool true)) := by
  have hand := head_and h
  rw [hQ] at hand
  have HX := Lib.hid hx; have HY := Lib.hid hy
  clear hx hy hQ
  go_enter Try.func131, Try.ntmps131
  go_upto_region 3 with fail
  go_quiet (fail)
  go_wp2_with fail
  refine (hasStateAndData_any _ _).mono ?_
  rintro e w1' ⟨rfl, rfl⟩
  rw [HX.out, HY.out]
  have S1 := Lib.hid (ReadSt.start w nq a q)
  generalize (((w.alloc (.cells #[.int .i64 0, .int .i64 0, .int .i64 0, .int .i64 0, .int .i64 0, .int .i64 0, .int .i64 0, .slice none 0 0] 28)).drewN nq).alloc (.cells #[.int .i64 a, .int .i64 q, .int .i64 0, .int .i64 0, .int .i64 0, .int .i64 0, .int .i64 0, .slice none 0 0] 28)) = w1 at S1 ⊢
  have c0 := S1.out.var.c0
  have c1 := S1.out.var.c1
  have c2 := S1.out.var.c2
  have c3 := S1.out.var.c3
  have c4 := S1.out.var.c4
  have c5 := S1.out.var.c5
  have c6 := S1.out.var.c6
  have c7 := S1.out.var.c7
  have d0 := S1.out.res.c0
  have d1 := S1.out.res.c1
  have d2 := S1.out.res.c2
  have d3 := S1.out.res.c3
  have d4 := S1.out.res.c4
  have d5 := S1.out.res.c5
  have d6 := S1.out.res.c6
  have d7 := S1.out.res.c7
  have f0 := S1.out.res.f 0
  have f1 := S1.out.res.f 1
  have f2 := S1.out.res.f 2
  have f3 := S1.out.res.f 3
  have f4 := S1.out.res.f 4
  have f5 := S1.out.res.f 5
  have f6 := S1.out.res.f 6
  have f7 := S1.out.res.f 7
  go_wp2_with fail
  clear c0 c1 c2 c3 c4 c5 c6 c7
  clear d0 d1 d2 d3 d4 d5 d6 d7 f0 f1 f2 f3 f4 f5 f6 f7
  change bodyPost _ _ _ _ _ (setEight w1 w.heap.size a q 0 0 0 0 0 (.slice none 0 0))
  obtain ⟨SF, BF, OF⟩ := S1.out.fin a q 0 0 0 0 0 (.slice none 0 0)
  generalize setEight w1 w.heap.size a q 0 0 0 0 0 (.slice none 0 0) = wz at SF BF OF ⊢
  have e0 := SF.c0
  have e1 := SF.c1
  have e2 := SF.c2
  have e3 := SF.c3
  have e4 := SF.c4
  have e5 := SF.c5
  have e6 := SF.c6
  have e7 := SF.c7
  exact bodyPost_ret (v := .tuple #[.agg #[.int .i64 a, .int .i64 q, .int .i64 0, .int .i64 0, .int .i64 0, .int .i64 0, .int .i64 0, .slice none 0 0], .bool true]) (by simp [results, Try.results131, go_sem, e0, e1, e2, e3, e4, e5, e6, e7]) rfl ⟨_, _, rfl, OF, BF⟩
end

section
open Go.RowKit

theorem rd_partB {w : World} {b off f l : Nat} {ys : List Int} (h : Rd w (Option.map (fun x => x.add f) (some (⟨b, off, none⟩ : Addr))) l ys) : Rd w (some ⟨b, off + f, none⟩) l ys := by simpa [Addr.add_lit] using h
theorem rd_empty {w : World} {ao : Option Addr} : Rd w ao 0 [] := ⟨rfl, fun h => absurd h (by omega)⟩
theorem readBody_nil (ao : Option Addr) (cap : Nat) (w : World) : Calls Try.prog 131 #[.slice ao 0 cap] w (GivesFB w Fr.zero (.bool false)) := by
  go_enter Try.func131, Try.ntmps131
  go_wp2_with fail
  exact bodyPost_ret (v := .tuple #[.agg #[.int .i64 0, .int .i64 0, .int .i64 0, .int .i64 0, .int .i64 0, .int .i64 0, .int .i64 0, .slice none 0 0], .bool false]) (by simp [results, Try.results131, go_sem]) rfl ⟨_, _, rfl, Own.nil_, (Below.refl _ _).alloc (Nat.le_refl _) _⟩
theorem rf_nil {xs : List Int} (h : xs.length = 0) : readFrame xs = none := by unfold readFrame; rw [if_pos h]
theorem rf_short {xs : List Int} (h0 : xs.length ≠ 0) (hx : hasState (xs.getD 0 0 / 64) = true) (h : xs.length < 9) : readFrame xs = none := by unfold readFrame; rw [if_neg h0, if_pos hx, if_pos h]
theorem rf_11n {xs : List Int} (hx : hasState (xs.getD 0 0 / 64) = true) (hy : hasData (xs.getD 0 0 / 64) = true) (h : xs.length = 9) : readFrame xs = none := by unfold readFrame; rw [if_neg (by omega), if_pos hx, if_neg (by omega), if_pos hy, if_pos (by omega)]
theorem rf_11 {xs : List Int} (hx : hasState (xs.getD 0 0 / 64) = true) (hy : hasData (xs.getD 0 0 / 64) = true) (h : 10 ≤ xs.length) : readFrame xs = some ⟨xs.getD 0 0 / 64, xs.getD 0 0 / 8 % 8, numIn (bitsOf8 ((xs.drop 1).take 8)) 0 16, numIn (bitsOf8 ((xs.drop 1).take 8)) 16 4, numIn (bitsOf8 ((xs.drop 1).take 8)) 20 4, numIn (bitsOf8 ((xs.drop 1).take 8)) 24 8, numIn (bitsOf8 ((xs.drop 1).take 8)) 32 32, xs.drop 10⟩ := by
  unfold readFrame; rw [if_neg (by omega), if_pos hx, if_neg (by omega), if_pos hy, if_neg (by omega)]
theorem rf_10 {xs : List Int} (hx : hasState (xs.getD 0 0 / 64) = true) (hy : hasData (xs.getD 0 0 / 64) = false) (h : 9 ≤ xs.length) : readFrame xs = some ⟨xs.getD 0 0 / 64, xs.getD 0 0 / 8 % 8, numIn (bitsOf8 ((xs.drop 1).take 8)) 0 16, numIn (bitsOf8 ((xs.drop 1).take 8)) 16 4, numIn (bitsOf8 ((xs.drop 1).take 8)) 20 4, numIn (bitsOf8 ((xs.drop 1).take 8)) 24 8, numIn (bitsOf8 ((xs.drop 1).take 8)) 32 32, []⟩ := by
  unfold readFrame; rw [if_neg (by omega), if_pos hx, if_neg (by omega), if_neg (by rw [hy]; simp)]
theorem rf_01n {xs : List Int} (hx : hasState (xs.getD 0 0 / 64) = false) (hy : hasData (xs.getD 0 0 / 64) = true) (h : xs.length = 1) : readFrame xs = none := by unfold readFrame; rw [if_neg (by omega), if_neg (by rw [hx]; simp), if_pos hy, if_pos (by omega)]
theorem rf_01 {xs : List Int} (hx : hasState (xs.getD 0 0 / 64) = false) (hy : hasData (xs.getD 0 0 / 64) = true) (h : 2 ≤ xs.length) : readFrame xs = some ⟨xs.getD 0 0 / 64, xs.getD 0 0 / 8 % 8, 0, 0, 0, 0, 0, xs.drop 2⟩ := by
  unfold readFrame; rw [if_neg (by omega), if_neg (by rw [hx]; simp), if_pos hy, if_neg (by omega)]
theorem rf_00 {xs : List Int} (hx : hasState (xs.getD 0 0 / 64) = false) (hy : hasData (xs.getD 0 0 / 64) = false) (h : 1 ≤ xs.length) : readFrame xs = some ⟨xs.getD 0 0 / 64, xs.getD 0 0 / 8 % 8, 0, 0, 0, 0, 0, []⟩ := by
  unfold readFrame; rw [if_neg (by omega), if_neg (by rw [hx]; simp), if_neg (by rw [hy]; simp)]
theorem readBody_any (ao : Option Addr) (cap : Nat) (xs : List Int) (w : World) (hr : Rd w ao xs.length xs) (hb : isBytes xs = true) (hcap : xs.length ≤ cap) (hcap2 : cap ≤ 9223372036854775807) :
    Calls Try.prog 131 #[.slice ao xs.length cap] w (GivesOpt w (readFrame xs)) := by
  obtain ⟨hbl, hbx⟩ := isBytes_iff.1 hb
  by_cases h0 : xs.length = 0
  · rw [rf_nil h0, h0]
    exact readBody_nil ao cap w
  obtain ⟨b, off, rfl, hat⟩ := hr.here (by omega)
  obtain ⟨b', off', e', hlt⟩ := hr.block (by omega)
  cases e'
  have hc : w.cell? ⟨b, off, none⟩ = some (.int .i64 (xs.getD 0 0)) := hat 0 (by omega)
  have hD : ∀ j, j ≤ xs.length → ∀ W o', Below w.heap.size w W → (o' = off + j ∨ xs.drop j = []) → Rd W (some ⟨b, o', none⟩) (xs.drop j).length (xs.drop j) := by
    intro j hj W o' hB ho
    rcases ho with rfl | he
    · have h1 := rd_partB (hr.rest (a := j) hj)
      rw [List.length_drop]
      exact h1.below hB
    · rw [he]; exact rd_empty
  rcases hx : hasState (xs.getD 0 0 / 64) with _ | _
  · rcases hy : hasData (xs.getD 0 0 / 64) with _ | _
    · rw [rf_00 hx hy (by omega)]
      obtain ⟨n, hn⟩ : ∃ n, xs.length = n + 1 := ⟨xs.length - 1, by omega⟩
      obtain ⟨e, rfl⟩ : ∃ e, cap = e + 1 := ⟨cap - 1, by omega⟩
      rw [hn]
      by_cases he : e = 0
      · subst he; exact rd00_1 b off 0 n w _ _ _ 0 0 0 0 0 [] hlt hc (by omega) (by omega) rfl rfl hx hy
      · exact rd00_0 b off e n w _ _ _ 0 0 0 0 0 [] hlt hc (by omega) hcap2 rfl rfl hx hy he
    · by_cases h1 : xs.length = 1
      · rw [rf_01n hx hy h1, h1]
        obtain ⟨e, rfl⟩ : ∃ e, cap = e + 1 := ⟨cap - 1, by omega⟩
        by_cases he : e = 0
        · subst he; exact rd01n_1 b off 0 0 w _ _ _ 0 0 0 0 0 [] hlt hc (by omega) (by omega) rfl rfl hx hy
        · exact rd01n_0 b off e 0 w _ _ _ 0 0 0 0 0 [] hlt hc (by omega) hcap2 rfl rfl hx hy he
      · rw [rf_01 hx hy (by omega)]
        have hd := hD 2 (by omega)
        have hn : xs.length = (xs.drop 2).length + 2 := by rw [List.length_drop]; omega
        have hdl : (xs.drop 2).length ≤ 1024 := by rw [List.length_drop]; omega
        generalize xs.drop 2 = d at hd hn hdl ⊢
        obtain ⟨e, rfl⟩ : ∃ e, cap = e + 1 := ⟨cap - 1, by omega⟩
        rw [hn]
        by_cases he : e = 1
        · subst he; exact rd01_1 b off 0 0 w _ _ _ 0 0 0 0 0 d hlt hc (by omega) (by omega) rfl rfl hx hy hdl hd
        · exact rd01_0 b off e 0 w _ _ _ 0 0 0 0 0 d hlt hc (by omega) hcap2 rfl rfl hx hy he hdl hd
  · by_cases h9 : xs.length < 9
    · rw [rf_short h0 hx h9]
      obtain ⟨n, hn⟩ : ∃ n, xs.length = n + 1 := ⟨xs.length - 1, by omega⟩
      obtain ⟨e, rfl⟩ : ∃ e, cap = e + 1 := ⟨cap - 1, by omega⟩
      rw [hn]
      rcases hy : hasData (xs.getD 0 0 / 64) with _ | _
      · by_cases he : e = 0
        · subst he; exact rdS0_1 b off 0 n w _ _ _ 0 0 0 0 0 [] hlt hc (by omega) (by omega) rfl rfl hx hy (by omega)
        · exact rdS0_0 b off e n w _ _ _ 0 0 0 0 0 [] hlt hc (by omega) hcap2 rfl rfl hx hy he (by omega)
      · by_cases he : e = 0
        · subst he; exact rdS1_1 b off 0 n w _ _ _ 0 0 0 0 0 [] hlt hc (by omega) (by omega) rfl rfl hx hy (by omega)
        · exact rdS1_0 b off e n w _ _ _ 0 0 0 0 0 [] hlt hc (by omega) hcap2 rfl rfl hx hy he (by omega)
    · have hst : ∀ W c, Below w.heap.size w W → Calls Try.prog 155 #[.slice (some ⟨b, off + 1, none⟩) 8 c] W (GivesState W (numIn (bitsOf8 ((xs.drop 1).take 8)) 0 16) (numIn (bitsOf8 ((xs.drop 1).take 8)) 16 4) (numIn (bitsOf8 ((xs.drop 1).take 8)) 20 4) (numIn (bitsOf8 ((xs.drop 1).take 8)) 24 8) (numIn (bitsOf8 ((xs.drop 1).take 8)) 32 32)) :=
        fun W c hB => stateOfBytes_any _ c _ W ((rd_partB (hr.slice (a := 1) (k := 8) (by omega))).below hB) (fun x hx => hbx x (List.mem_of_mem_drop (List.mem_of_mem_take hx)))
      obtain ⟨e, rfl⟩ : ∃ e, cap = e + 9 := ⟨cap - 9, by omega⟩
      rcases hy : hasData (xs.getD 0 0 / 64) with _ | _
      · rw [rf_10 hx hy (by omega)]
        obtain ⟨n, hn⟩ : ∃ n, xs.length = n + 9 := ⟨xs.length - 9, by omega⟩
        rw [hn]
        by_cases he : e = 0
        · subst he; exact rd10_1 b off 0 n w _ _ _ _ _ _ _ _ [] hlt hc (by omega) (by omega) rfl rfl hx hy hst
        · exact rd10_0 b off e n w _ _ _ _ _ _ _ _ [] hlt hc (by omega) hcap2 rfl rfl hx hy he hst
      · by_cases h1 : xs.length = 9
        · rw [rf_11n hx hy h1, h1]
          by_cases he : e = 0
          · subst he; exact rd11n_1 b off 0 0 w _ _ _ _ _ _ _ _ [] hlt hc (by omega) (by omega) rfl rfl hx hy hst
          · exact rd11n_0 b off e 0 w _ _ _ _ _ _ _ _ [] hlt hc (by omega) hcap2 rfl rfl hx hy he hst
        · rw [rf_11 hx hy (by omega)]
          have hd := hD 10 (by omega)
          have hn : xs.length = (xs.drop 10).length + 10 := by rw [List.length_drop]; omega
          have hdl : (xs.drop 10).length ≤ 1024 := by rw [List.length_drop]; omega
          generalize xs.drop 10 = d at hd hn hdl ⊢
          rw [hn]
          by_cases he : e = 1
          · subst he; exact rd11_1 b off 0 0 w _ _ _ _ _ _ _ _ d hlt hc (by omega) (by omega) rfl rfl hx hy hdl hst hd
          · exact rd11_0 b off e 0 w _ _ _ _ _ _ _ _ d hlt hc (by omega) hcap2 rfl rfl hx hy he hdl hst hd
end

section
open Go.RowKit

/-- While a frame is checked: the block of the result, still the zero value; the frame in block J; its data a slice of the call's own. -/
structure FromSt (w wi : World) (J : Nat) (a q t m r s k : Int) (v : Value) (xs : List Int) : Prop where
  res : FrameAt 28 wi w.heap.size 0 0 0 0 0 0 0 (.slice none 0 0)
  var : FrameAt 28 wi J a q t m r s k v
  lt : w.heap.size < J
  below : Below w.heap.size w wi
  own : Own 2 wi (w.heap.size + 1) v xs
section
variable {w wi wj : World} {J : Nat} {a q t m r s k : Int} {v : Value} {xs : List Int}
theorem FromSt.call (h : FromSt w wi J a q t m r s k v xs) (b : Below wi.heap.size wi wj) : FromSt w wj J a q t m r s k v xs := ⟨h.res.below b h.res.lt, h.var.below b h.var.lt, h.lt, below_two h.below b, h.own.below b⟩
theorem FromSt.fin (h : FromSt w wi J a q t m r s k v xs) (a' q' t' m' r' s' k' : Int) (v' : Value) : FrameAt 28 (setEight wi w.heap.size a' q' t' m' r' s' k' v') w.heap.size a' q' t' m' r' s' k' v' ∧ Below w.heap.size w (setEight wi w.heap.size a' q' t' m' r' s' k' v') ∧ Own 2 (setEight wi w.heap.size a' q' t' m' r' s' k' v') w.heap.size v xs :=
  ⟨h.res.eight a' q' t' m' r' s' k' v', h.below.trans (below_eight (Nat.le_refl _) a' q' t' m' r' s' k' v'), (h.own.awayEight (by omega) a' q' t' m' r' s' k' v').more (by omega)⟩
end
/-- The frame that has been handed back is laid in a new block. -/
theorem FromSt.start {w w1 : World} {a q t m r s k : Int} {v : Value} {xs : List Int} (hb : Below (w.alloc (.cells #[.int .i64 0, .int .i64 0, .int .i64 0, .int .i64 0, .int .i64 0, .int .i64 0, .int .i64 0, .slice none 0 0] 28)).heap.size (w.alloc (.cells #[.int .i64 0, .int .i64 0, .int .i64 0, .int .i64 0, .int .i64 0, .int .i64 0, .int .i64 0, .slice none 0 0] 28)) w1) (ho : Own 2 w1 (w.alloc (.cells #[.int .i64 0, .int .i64 0, .int .i64 0, .int .i64 0, .int .i64 0, .int .i64 0, .int .i64 0, .slice none 0 0] 28)).heap.size v xs) :
    FromSt w (w1.alloc (.cells #[.int .i64 a, .int .i64 q, .int .i64 t, .int .i64 m, .int .i64 r, .int .i64 s, .int .i64 k, v] 28)) w1.heap.size a q t m r s k v xs := by
  have r0 := frame_new hb
  have e : (w.alloc (.cells #[.int .i64 0, .int .i64 0, .int .i64 0, .int .i64 0, .int .i64 0, .int .i64 0, .int .i64 0, .slice none 0 0] 28)).heap.size = w.heap.size + 1 := by simp
  have b1 : Below w1.heap.size w1 (w1.alloc (.cells #[.int .i64 a, .int .i64 q, .int .i64 t, .int .i64 m, .int .i64 r, .int .i64 s, .int .i64 k, v] 28)) := (Below.refl _ _).alloc (Nat.le_refl _) _
  rw [e] at ho
  exact ⟨r0.below b1 r0.lt, FrameAt.new w1, r0.lt, below_two (below_box hb) b1, ho.below b1⟩
theorem ff_range {xs : List Int} (h : isBytes xs = false) : frameFrom xs = (Fr.zero, 2) := by unfold frameFrom; rw [if_pos h]
theorem ff_none {xs : List Int} (h : isBytes xs = true) (h2 : readFrame xs = none) : frameFrom xs = (Fr.zero, 6) := by unfold frameFrom; rw [if_neg (by rw [h]; simp), h2]
theorem ff_no {xs : List Int} {f : Fr} (h : isBytes xs = true) (h2 : readFrame xs = some f) (h3 : ¬ (isFrame f = true ∧ frameBytes f = xs)) : frameFrom xs = (Fr.zero, 6) := by unfold frameFrom; rw [if_neg (by rw [h]; simp), h2]; simp only; rw [if_neg h3]
theorem ff_yes {xs : List Int} {f : Fr} (h : isBytes xs = true) (h2 : readFrame xs = some f) (h3 : isFrame f = true) (h4 : frameBytes f = xs) : frameFrom xs = (f, 0) := by unfold frameFrom; rw [if_neg (by rw [h]; simp), h2]; simp only; rw [if_pos ⟨h3, h4⟩]
theorem readFrame_len {xs : List Int} {f : Fr} (h : readFrame xs = some f) : f.data.length ≤ xs.length := by
  unfold readFrame at h
  split at h
  · cases h
  · split at h
    · split at h
      · cases h
      · split at h
        · split at h
          · cases h
          · cases h; simp
        · cases h; simp
    · split at h
      · split at h
        · cases h
        · cases h; simp
      · cases h; simp

set_option linter.unusedVariables false in
set_option maxRecDepth 100000 in
theorem from_range (ao : Option Addr) (cap : Nat) (xs : List Int) (w : World) (hr : Rd w ao xs.length xs) (hn : xs.length ≤ 1048576) (hcap : xs.length ≤ cap) (hcap2 : cap ≤ 9223372036854775807) (hb : isBytes xs = false) :
    Calls Try.prog 87 #[.slice ao xs.length cap] w (GivesFB w Fr.zero (.int .i64 2)) := by
  have hb0 : Below w.heap.size w (w.alloc (.cells #[.int .i64 0, .int .i64 0, .int .i64 0, .int .i64 0, .int .i64 0, .int .i64 0, .int .i64 0, .slice none 0 0] 28)) := (Below.refl _ _).alloc (Nat.le_refl _) _
  have HR := Lib.hid (hr.below hb0); have HR0 := Lib.hid hr; clear hb0 hr
  have HB := Lib.hid hb; clear hb
  go_enter Try.func87, Try.ntmps87
  go_wp2_with (go_at_call 84; refine (isBytes_any _ _ _ _ _ HR.out (by omega)).mono ?_; rintro e w' ⟨rfl, rfl⟩; rw [HB.out])
  exact bodyPost_ret (v := .tuple #[.agg #[.int .i64 0, .int .i64 0, .int .i64 0, .int .i64 0, .int .i64 0, .int .i64 0, .int .i64 0, .slice none 0 0], .int .i64 2]) (by simp [results, Try.results87, go_sem]) rfl ⟨_, _, rfl, Own.nil_, (Below.refl _ _).alloc (Nat.le_refl _) _⟩
set_option maxHeartbeats 1000000 in
set_option linter.unusedVariables false in
set_option maxRecDepth 100000 in
theorem from_none (ao : Option Addr) (cap : Nat) (xs : List Int) (w : World) (hr : Rd w ao xs.length xs) (hn : xs.length ≤ 1048576) (hcap : xs.length ≤ cap) (hcap2 : cap ≤ 9223372036854775807) (d : List Int) (hd : d = []) (hb : isBytes xs = true) (hf : readFrame xs = none) :
    Calls Try.prog 87 #[.slice ao xs.length cap] w (GivesFB w Fr.zero (.int .i64 6)) := by
  have hb0 : Below w.heap.size w (w.alloc (.cells #[.int .i64 0, .int .i64 0, .int .i64 0, .int .i64 0, .int .i64 0, .int .i64 0, .int .i64 0, .slice none 0 0] 28)) := (Below.refl _ _).alloc (Nat.le_refl _) _
  have HR := Lib.hid (hr.below hb0); have HR0 := Lib.hid hr; clear hb0 hr
  have hG : ∀ W e w', GivesOpt W (readFrame xs) e w' → GivesFB W ⟨0, 0, 0, 0, 0, 0, 0, d⟩ (.bool false) e w' := by intro W e w' h; rw [hf] at h; rw [hd]; exact h
  have hdl : d.length ≤ xs.length := by rw [hd]; exact Nat.zero_le _
  have hlen : (frameBody ⟨0, 0, 0, 0, 0, 0, 0, d⟩).1.length ≤ 42 := frameBody_len _
  obtain ⟨r0, r1, hFB⟩ : ∃ r0 r1, frameBody ⟨0, 0, 0, 0, 0, 0, 0, d⟩ = (r0, r1) := ⟨_, _, rfl⟩
  rw [hFB] at hlen
  have HB := Lib.hid hb; have HG := Lib.hid hG; have HFB := Lib.hid hFB; have HL := Lib.hid hlen; have HDL := Lib.hid hdl; clear hf hFB hlen hdl hG
  clear hb hd
  go_enter Try.func87, Try.ntmps87
  go_wp2_with (go_at_call 84; refine (isBytes_any _ _ _ _ _ HR.out (by omega)).mono ?_; rintro e w' ⟨rfl, rfl⟩; rw [HB.out])
  refine (readBody_any _ _ _ _ HR.out HB.out hcap hcap2).mono ?_
  intro e w1 h1
  obtain ⟨p1, c1, rfl, o1, b1⟩ := HG.out _ _ _ h1
  clear h1
  simp only at o1 ⊢
  have S1 := Lib.hid (FromSt.start (a := 0) (q := 0) (t := 0) (m := 0) (r := 0) (s := 0) (k := 0) b1 o1)
  clear b1 o1
  go_wp2_with fail
  obtain ⟨J, hJ⟩ : ∃ b, b = w1.heap.size := ⟨_, rfl⟩
  rw [← hJ] at S1 ⊢
  clear hJ
  generalize w1.alloc (.cells #[.int .i64 0, .int .i64 0, .int .i64 0, .int .i64 0, .int .i64 0, .int .i64 0, .int .i64 0, .slice p1 d.length c1] 28) = w2 at S1 ⊢
  obtain ⟨ao', cap', e', -, RD⟩ := S1.out.own.get
  cases e'
  refine (frameBody_any _ _ _ _ _ _ _ _ _ _ _ RD (by have := HDL.out; omega)).mono ?_
  rintro e w3 m3
  rw [HFB.out] at m3
  change Makes2 2 _ r0 r1 _ _ at m3
  obtain ⟨p3, c3, rfl, -, r3, b3⟩ := m3.get
  have S3 := Lib.hid (S1.out.call b3)
  have R3 := Lib.hid r3
  clear m3 r3 b3 RD S1
  have d0 := S3.out.res.c0
  have d1 := S3.out.res.c1
  have d2 := S3.out.res.c2
  have d3 := S3.out.res.c3
  have d4 := S3.out.res.c4
  have d5 := S3.out.res.c5
  have d6 := S3.out.res.c6
  have d7 := S3.out.res.c7
  have f0 := S3.out.res.f 0
  have f1 := S3.out.res.f 1
  have f2 := S3.out.res.f 2
  have f3 := S3.out.res.f 3
  have f4 := S3.out.res.f 4
  have f5 := S3.out.res.f 5
  have f6 := S3.out.res.f 6
  have f7 := S3.out.res.f 7
  go_wp2_with fail
  clear d0 d1 d2 d3 d4 d5 d6 d7 f0 f1 f2 f3 f4 f5 f6 f7
  change bodyPost _ _ _ _ _ (setEight w3 w.heap.size 0 0 0 0 0 0 0 (.slice none 0 0))
  obtain ⟨SF, BF, OF⟩ := S3.out.fin 0 0 0 0 0 0 0 (.slice none 0 0)
  generalize setEight w3 w.heap.size 0 0 0 0 0 0 0 (.slice none 0 0) = wz at SF BF OF ⊢
  have e0 := SF.c0
  have e1 := SF.c1
  have e2 := SF.c2
  have e3 := SF.c3
  have e4 := SF.c4
  have e5 := SF.c5
  have e6 := SF.c6
  have e7 := SF.c7
  exact bodyPost_ret (v := .tuple #[.agg #[.int .i64 0, .int .i64 0, .int .i64 0, .int .i64 0, .int .i64 0, .int .i64 0, .int .i64 0, .slice none 0 0], .int .i64 6]) (by simp [results, Try.results87, go_sem, e0, e1, e2, e3, e4, e5, e6, e7]) rfl ⟨_, _, rfl, Own.nil_, BF⟩
set_option maxHeartbeats 1000000 in
set_option linter.unusedVariables false in
set_option maxRecDepth 100000 in
theorem from_bad (ao : Option Addr) (cap : Nat) (xs : List Int) (w : World) (hr : Rd w ao xs.length xs) (hn : xs.length ≤ 1048576) (hcap : xs.length ≤ cap) (hcap2 : cap ≤ 9223372036854775807) (a q t m r s k : Int) (d : List Int) (hb : isBytes xs = true) (hf : readFrame xs = some ⟨a, q, t, m, r, s, k, d⟩) (hi : isFrame ⟨a, q, t, m, r, s, k, d⟩ = false) :
    Calls Try.prog 87 #[.slice ao xs.length cap] w (GivesFB w Fr.zero (.int .i64 6)) := by
  have hb0 : Below w.heap.size w (w.alloc (.cells #[.int .i64 0, .int .i64 0, .int .i64 0, .int .i64 0, .int .i64 0, .int .i64 0, .int .i64 0, .slice none 0 0] 28)) := (Below.refl _ _).alloc (Nat.le_refl _) _
  have HR := Lib.hid (hr.below hb0); have HR0 := Lib.hid hr; clear hb0 hr
  have hG : ∀ W e w', GivesOpt W (readFrame xs) e w' → GivesFB W ⟨a, q, t, m, r, s, k, d⟩ (.bool true) e w' := by intro W e w' h; rw [hf] at h; exact h
  have hdl := readFrame_len hf
  simp only at hdl
  have hlen : (frameBody ⟨a, q, t, m, r, s, k, d⟩).1.length ≤ 42 := frameBody_len _
  obtain ⟨r0, r1, hFB⟩ : ∃ r0 r1, frameBody ⟨a, q, t, m, r, s, k, d⟩ = (r0, r1) := ⟨_, _, rfl⟩
  rw [hFB] at hlen
  have hne : (r1 != 0) = true := by have h := body_no hi; rw [hFB] at h; simp only [Prod.mk.injEq] at h; rw [h.2]; rfl
  have HB := Lib.hid hb; have HG := Lib.hid hG; have HFB := Lib.hid hFB; have HL := Lib.hid hlen; have HDL := Lib.hid hdl; clear hf hFB hlen hdl hG
  clear hb hi
  go_enter Try.func87, Try.ntmps87
  go_wp2_with (go_at_call 84; refine (isBytes_any _ _ _ _ _ HR.out (by omega)).mono ?_; rintro e w' ⟨rfl, rfl⟩; rw [HB.out])
  refine (readBody_any _ _ _ _ HR.out HB.out hcap hcap2).mono ?_
  intro e w1 h1
  obtain ⟨p1, c1, rfl, o1, b1⟩ := HG.out _ _ _ h1
  clear h1
  simp only at o1 ⊢
  have S1 := Lib.hid (FromSt.start (a := a) (q := q) (t := t) (m := m) (r := r) (s := s) (k := k) b1 o1)
  clear b1 o1
  go_wp2_with fail
  obtain ⟨J, hJ⟩ : ∃ b, b = w1.heap.size := ⟨_, rfl⟩
  rw [← hJ] at S1 ⊢
  clear hJ
  generalize w1.alloc (.cells #[.int .i64 a, .int .i64 q, .int .i64 t, .int .i64 m, .int .i64 r, .int .i64 s, .int .i64 k, .slice p1 d.length c1] 28) = w2 at S1 ⊢
  obtain ⟨ao', cap', e', -, RD⟩ := S1.out.own.get
  cases e'
  refine (frameBody_any _ _ _ _ _ _ _ _ _ _ _ RD (by have := HDL.out; omega)).mono ?_
  rintro e w3 m3
  rw [HFB.out] at m3
  change Makes2 2 _ r0 r1 _ _ at m3
  obtain ⟨p3, c3, rfl, -, r3, b3⟩ := m3.get
  have S3 := Lib.hid (S1.out.call b3)
  have R3 := Lib.hid r3
  clear m3 r3 b3 RD S1
  have d0 := S3.out.res.c0
  have d1 := S3.out.res.c1
  have d2 := S3.out.res.c2
  have d3 := S3.out.res.c3
  have d4 := S3.out.res.c4
  have d5 := S3.out.res.c5
  have d6 := S3.out.res.c6
  have d7 := S3.out.res.c7
  have f0 := S3.out.res.f 0
  have f1 := S3.out.res.f 1
  have f2 := S3.out.res.f 2
  have f3 := S3.out.res.f 3
  have f4 := S3.out.res.f 4
  have f5 := S3.out.res.f 5
  have f6 := S3.out.res.f 6
  have f7 := S3.out.res.f 7
  go_wp2_with fail
  clear d0 d1 d2 d3 d4 d5 d6 d7 f0 f1 f2 f3 f4 f5 f6 f7
  change bodyPost _ _ _ _ _ (setEight w3 w.heap.size 0 0 0 0 0 0 0 (.slice none 0 0))
  obtain ⟨SF, BF, OF⟩ := S3.out.fin 0 0 0 0 0 0 0 (.slice none 0 0)
  generalize setEight w3 w.heap.size 0 0 0 0 0 0 0 (.slice none 0 0) = wz at SF BF OF ⊢
  have e0 := SF.c0
  have e1 := SF.c1
  have e2 := SF.c2
  have e3 := SF.c3
  have e4 := SF.c4
  have e5 := SF.c5
  have e6 := SF.c6
  have e7 := SF.c7
  exact bodyPost_ret (v := .tuple #[.agg #[.int .i64 0, .int .i64 0, .int .i64 0, .int .i64 0, .int .i64 0, .int .i64 0, .int .i64 0, .slice none 0 0], .int .i64 6]) (by simp [results, Try.results87, go_sem, e0, e1, e2, e3, e4, e5, e6, e7]) rfl ⟨_, _, rfl, Own.nil_, BF⟩
set_option maxHeartbeats 1000000 in
set_option linter.unusedVariables false in
set_option maxRecDepth 100000 in
theorem from_other (ao : Option Addr) (cap : Nat) (xs : List Int) (w : World) (hr : Rd w ao xs.length xs) (hn : xs.length ≤ 1048576) (hcap : xs.length ≤ cap) (hcap2 : cap ≤ 9223372036854775807) (a q t m r s k : Int) (d : List Int) (hb : isBytes xs = true) (hf : readFrame xs = some ⟨a, q, t, m, r, s, k, d⟩) (hi : isFrame ⟨a, q, t, m, r, s, k, d⟩ = true) (hx : frameBytes ⟨a, q, t, m, r, s, k, d⟩ ≠ xs) :
    Calls Try.prog 87 #[.slice ao xs.length cap] w (GivesFB w Fr.zero (.int .i64 6)) := by
  have hb0 : Below w.heap.size w (w.alloc (.cells #[.int .i64 0, .int .i64 0, .int .i64 0, .int .i64 0, .int .i64 0, .int .i64 0, .int .i64 0, .slice none 0 0] 28)) := (Below.refl _ _).alloc (Nat.le_refl _) _
  have HR := Lib.hid (hr.below hb0); have HR0 := Lib.hid hr; clear hb0 hr
  have hG : ∀ W e w', GivesOpt W (readFrame xs) e w' → GivesFB W ⟨a, q, t, m, r, s, k, d⟩ (.bool true) e w' := by intro W e w' h; rw [hf] at h; exact h
  have hdl := readFrame_len hf
  simp only at hdl
  have hlen : (frameBody ⟨a, q, t, m, r, s, k, d⟩).1.length ≤ 42 := frameBody_len _
  obtain ⟨r0, r1, hFB⟩ : ∃ r0 r1, frameBody ⟨a, q, t, m, r, s, k, d⟩ = (r0, r1) := ⟨_, _, rfl⟩
  rw [hFB] at hlen
  have hne : (r1 != 0) = false := by have h := body_ok hi; rw [hFB] at h; simp only [Prod.mk.injEq] at h; rw [h.2]; rfl
  have hr0 : r0 = frameBytes ⟨a, q, t, m, r, s, k, d⟩ := by have h := body_ok hi; rw [hFB] at h; simp only [Prod.mk.injEq] at h; exact h.1
  have hdec : decide (r0 = xs) = false := by rw [hr0]; exact decide_eq_false hx
  have HDEC := Lib.hid hdec; clear hdec
  have HB := Lib.hid hb; have HG := Lib.hid hG; have HFB := Lib.hid hFB; have HL := Lib.hid hlen; have HDL := Lib.hid hdl; clear hf hFB hlen hdl hG
  clear hb hi hx hr0
  go_enter Try.func87, Try.ntmps87
  go_wp2_with (go_at_call 84; refine (isBytes_any _ _ _ _ _ HR.out (by omega)).mono ?_; rintro e w' ⟨rfl, rfl⟩; rw [HB.out])
  refine (readBody_any _ _ _ _ HR.out HB.out hcap hcap2).mono ?_
  intro e w1 h1
  obtain ⟨p1, c1, rfl, o1, b1⟩ := HG.out _ _ _ h1
  clear h1
  simp only at o1 ⊢
  have S1 := Lib.hid (FromSt.start (a := a) (q := q) (t := t) (m := m) (r := r) (s := s) (k := k) b1 o1)
  clear b1 o1
  go_wp2_with fail
  obtain ⟨J, hJ⟩ : ∃ b, b = w1.heap.size := ⟨_, rfl⟩
  rw [← hJ] at S1 ⊢
  clear hJ
  generalize w1.alloc (.cells #[.int .i64 a, .int .i64 q, .int .i64 t, .int .i64 m, .int .i64 r, .int .i64 s, .int .i64 k, .slice p1 d.length c1] 28) = w2 at S1 ⊢
  obtain ⟨ao', cap', e', -, RD⟩ := S1.out.own.get
  cases e'
  refine (frameBody_any _ _ _ _ _ _ _ _ _ _ _ RD (by have := HDL.out; omega)).mono ?_
  rintro e w3 m3
  rw [HFB.out] at m3
  change Makes2 2 _ r0 r1 _ _ at m3
  obtain ⟨p3, c3, rfl, -, r3, b3⟩ := m3.get
  have S3 := Lib.hid (S1.out.call b3)
  have R3 := Lib.hid r3
  clear m3 r3 b3 RD S1
  go_wp2_with (go_at_call 86; refine (equal_any _ _ _ _ _ _ _ _ _ R3.out (HR0.out.below S3.out.below) (by have := HL.out; omega) (by omega)).mono ?_; rintro e w4 ⟨rfl, q4, rfl⟩; rw [HDEC.out]; have S4 := Lib.hid (S3.out.call (below_drewN' (Below.refl _ _) q4)); have d0 := S4.out.res.c0; have d1 := S4.out.res.c1; have d2 := S4.out.res.c2; have d3 := S4.out.res.c3; have d4 := S4.out.res.c4; have d5 := S4.out.res.c5; have d6 := S4.out.res.c6; have d7 := S4.out.res.c7; have f0 := S4.out.res.f 0; have f1 := S4.out.res.f 1; have f2 := S4.out.res.f 2; have f3 := S4.out.res.f 3; have f4 := S4.out.res.f 4; have f5 := S4.out.res.f 5; have f6 := S4.out.res.f 6; have f7 := S4.out.res.f 7)
  clear d0 d1 d2 d3 d4 d5 d6 d7 f0 f1 f2 f3 f4 f5 f6 f7
  change bodyPost _ _ _ _ _ (setEight (w3.drewN q4) w.heap.size 0 0 0 0 0 0 0 (.slice none 0 0))
  obtain ⟨SF, BF, OF⟩ := S4.out.fin 0 0 0 0 0 0 0 (.slice none 0 0)
  generalize setEight (w3.drewN q4) w.heap.size 0 0 0 0 0 0 0 (.slice none 0 0) = wz at SF BF OF ⊢
  have e0 := SF.c0
  have e1 := SF.c1
  have e2 := SF.c2
  have e3 := SF.c3
  have e4 := SF.c4
  have e5 := SF.c5
  have e6 := SF.c6
  have e7 := SF.c7
  exact bodyPost_ret (v := .tuple #[.agg #[.int .i64 0, .int .i64 0, .int .i64 0, .int .i64 0, .int .i64 0, .int .i64 0, .int .i64 0, .slice none 0 0], .int .i64 6]) (by simp [results, Try.results87, go_sem, e0, e1, e2, e3, e4, e5, e6, e7]) rfl ⟨_, _, rfl, Own.nil_, BF⟩
set_option maxHeartbeats 1000000 in
set_option linter.unusedVariables false in
set_option maxRecDepth 100000 in
theorem from_yes (ao : Option Addr) (cap : Nat) (xs : List Int) (w : World) (hr : Rd w ao xs.length xs) (hn : xs.length ≤ 1048576) (hcap : xs.length ≤ cap) (hcap2 : cap ≤ 9223372036854775807) (a q t m r s k : Int) (d : List Int) (hb : isBytes xs = true) (hf : readFrame xs = some ⟨a, q, t, m, r, s, k, d⟩) (hi : isFrame ⟨a, q, t, m, r, s, k, d⟩ = true) (hx : frameBytes ⟨a, q, t, m, r, s, k, d⟩ = xs) :
    Calls Try.prog 87 #[.slice ao xs.length cap] w (GivesFB w ⟨a, q, t, m, r, s, k, d⟩ (.int .i64 0)) := by
  have hb0 : Below w.heap.size w (w.alloc (.cells #[.int .i64 0, .int .i64 0, .int .i64 0, .int .i64 0, .int .i64 0, .int .i64 0, .int .i64 0, .slice none 0 0] 28)) := (Below.refl _ _).alloc (Nat.le_refl _) _
  have HR := Lib.hid (hr.below hb0); have HR0 := Lib.hid hr; clear hb0 hr
  have hG : ∀ W e w', GivesOpt W (readFrame xs) e w' → GivesFB W ⟨a, q, t, m, r, s, k, d⟩ (.bool true) e w' := by intro W e w' h; rw [hf] at h; exact h
  have hdl := readFrame_len hf
  simp only at hdl
  have hlen : (frameBody ⟨a, q, t, m, r, s, k, d⟩).1.length ≤ 42 := frameBody_len _
  obtain ⟨r0, r1, hFB⟩ : ∃ r0 r1, frameBody ⟨a, q, t, m, r, s, k, d⟩ = (r0, r1) := ⟨_, _, rfl⟩
  rw [hFB] at hlen
  have hne : (r1 != 0) = false := by have h := body_ok hi; rw [hFB] at h; simp only [Prod.mk.injEq] at h; rw [h.2]; rfl
  have hr0 : r0 = frameBytes ⟨a, q, t, m, r, s, k, d⟩ := by have h := body_ok hi; rw [hFB] at h; simp only [Prod.mk.injEq] at h; exact h.1
  have hdec : decide (r0 = xs) = true := by rw [hr0]; exact decide_eq_true hx
  have HDEC := Lib.hid hdec; clear hdec
  have HB := Lib.hid hb; have HG := Lib.hid hG; have HFB := Lib.hid hFB; have HL := Lib.hid hlen; have HDL := Lib.hid hdl; clear hf hFB hlen hdl hG
  clear hb hi hx hr0
  go_enter Try.func87, Try.ntmps87
  go_wp2_with (go_at_call 84; refine (isBytes_any _ _ _ _ _ HR.out (by omega)).mono ?_; rintro e w' ⟨rfl, rfl⟩; rw [HB.out])
  refine (readBody_any _ _ _ _ HR.out HB.out hcap hcap2).mono ?_
  intro e w1 h1
  obtain ⟨p1, c1, rfl, o1, b1⟩ := HG.out _ _ _ h1
  clear h1
  simp only at o1 ⊢
  have S1 := Lib.hid (FromSt.start (a := a) (q := q) (t := t) (m := m) (r := r) (s := s) (k := k) b1 o1)
  clear b1 o1
  go_wp2_with fail
  obtain ⟨J, hJ⟩ : ∃ b, b = w1.heap.size := ⟨_, rfl⟩
  rw [← hJ] at S1 ⊢
  clear hJ
  generalize w1.alloc (.cells #[.int .i64 a, .int .i64 q, .int .i64 t, .int .i64 m, .int .i64 r, .int .i64 s, .int .i64 k, .slice p1 d.length c1] 28) = w2 at S1 ⊢
  obtain ⟨ao', cap', e', -, RD⟩ := S1.out.own.get
  cases e'
  refine (frameBody_any _ _ _ _ _ _ _ _ _ _ _ RD (by have := HDL.out; omega)).mono ?_
  rintro e w3 m3
  rw [HFB.out] at m3
  change Makes2 2 _ r0 r1 _ _ at m3
  obtain ⟨p3, c3, rfl, -, r3, b3⟩ := m3.get
  have S3 := Lib.hid (S1.out.call b3)
  have R3 := Lib.hid r3
  clear m3 r3 b3 RD S1
  go_wp2_with (go_at_call 86; refine (equal_any _ _ _ _ _ _ _ _ _ R3.out (HR0.out.below S3.out.below) (by have := HL.out; omega) (by omega)).mono ?_; rintro e w4 ⟨rfl, q4, rfl⟩; rw [HDEC.out]; have S4 := Lib.hid (S3.out.call (below_drewN' (Below.refl _ _) q4)); have d0 := S4.out.res.c0; have d1 := S4.out.res.c1; have d2 := S4.out.res.c2; have d3 := S4.out.res.c3; have d4 := S4.out.res.c4; have d5 := S4.out.res.c5; have d6 := S4.out.res.c6; have d7 := S4.out.res.c7; have f0 := S4.out.res.f 0; have f1 := S4.out.res.f 1; have f2 := S4.out.res.f 2; have f3 := S4.out.res.f 3; have f4 := S4.out.res.f 4; have f5 := S4.out.res.f 5; have f6 := S4.out.res.f 6; have f7 := S4.out.res.f 7; have c0' := S4.out.var.c0; have c1' := S4.out.var.c1; have c2' := S4.out.var.c2; have c3' := S4.out.var.c3; have c4' := S4.out.var.c4; have c5' := S4.out.var.c5; have c6' := S4.out.var.c6; have c7' := S4.out.var.c7)
  clear d0 d1 d2 d3 d4 d5 d6 d7 f0 f1 f2 f3 f4 f5 f6 f7
  clear c0' c1' c2' c3' c4' c5' c6' c7'
  change bodyPost _ _ _ _ _ (setEight (w3.drewN q4) w.heap.size a q t m r s k (.slice p1 d.length c1))
  obtain ⟨SF, BF, OF⟩ := S4.out.fin a q t m r s k (.slice p1 d.length c1)
  generalize setEight (w3.drewN q4) w.heap.size a q t m r s k (.slice p1 d.length c1) = wz at SF BF OF ⊢
  have e0 := SF.c0
  have e1 := SF.c1
  have e2 := SF.c2
  have e3 := SF.c3
  have e4 := SF.c4
  have e5 := SF.c5
  have e6 := SF.c6
  have e7 := SF.c7
  exact bodyPost_ret (v := .tuple #[.agg #[.int .i64 a, .int .i64 q, .int .i64 t, .int .i64 m, .int .i64 r, .int .i64 s, .int .i64 k, .slice p1 d.length c1], .int .i64 0]) (by simp [results, Try.results87, go_sem, e0, e1, e2, e3, e4, e5, e6, e7]) rfl ⟨_, _, rfl, OF, BF⟩
theorem frameFromBody_any (ao : Option Addr) (cap : Nat) (xs : List Int) (w : World) (hr : Rd w ao xs.length xs) (hn : xs.length ≤ 1048576) (hcap : xs.length ≤ cap) (hcap2 : cap ≤ 9223372036854775807) :
    Calls Try.prog 87 #[.slice ao xs.length cap] w (GivesFB w (frameFrom xs).1 (.int .i64 (frameFrom xs).2)) := by
  rcases hb : isBytes xs with _ | _
  · rw [ff_range hb]; exact from_range ao cap xs w hr hn hcap hcap2 hb
  rcases hf : readFrame xs with _ | f
  · rw [ff_none hb hf]; exact from_none ao cap xs w hr hn hcap hcap2 [] rfl hb hf
  obtain ⟨a, q, t, m, r, s, k, d⟩ := f
  rcases hi : isFrame ⟨a, q, t, m, r, s, k, d⟩ with _ | _
  · rw [ff_no hb hf (fun h => by rw [hi] at h; cases h.1)]; exact from_bad ao cap xs w hr hn hcap hcap2 a q t m r s k d hb hf hi
  by_cases hx : frameBytes ⟨a, q, t, m, r, s, k, d⟩ = xs
  · rw [ff_yes hb hf hi hx]; exact from_yes ao cap xs w hr hn hcap hcap2 a q t m r s k d hb hf hi hx
  · rw [ff_no hb hf (fun h => hx h.2)]; exact from_other ao cap xs w hr hn hcap hcap2 a q t m r s k d hb hf hi hx
end
end Go.Proofs.Ytbdfnkhmnglpbaa
