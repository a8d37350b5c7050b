/-
  Chapter 6: FrameFromBody of the program.
-/
import Derived.Test.YtnblbemkpojjdaaGD
namespace Go.Proofs.Ytnblbemkpojjdaa
open Go.RowKit

/-- While a frame is checked: the block of the result, still the zero value; the frame in block J; its data a slice of the call's own. -/
structure FromSt (w wi : World) (J : Nat) (a q t m r s k : Int) (v : Value) (xs : List Int) : Prop where
  res : FrameAt 28 wi w.heap.size 0 0 0 0 0 0 0 (.slice none 0 0)
  var : FrameAt 28 wi J a q t m r s k v
  lt : w.heap.size < J
  below : Below w.heap.size w wi
  own : Own 2 wi (w.heap.size + 1) v xs
section
variable {w wi wj : World} {J : Nat} {a q t m r s k : Int} {v : Value} {xs : List Int}
theorem FromSt.call (h : FromSt w wi J a q t m r s k v xs) (b : Below wi.heap.size wi wj) : FromSt w wj J a q t m r s k v xs := ⟨h.res.below b h.res.lt, h.var.below b h.var.lt, h.lt, below_two h.below b, h.own.below b⟩
theorem FromSt.fin (h : FromSt w wi J a q t m r s k v xs) (a' q' t' m' r' s' k' : Int) (v' : Value) : FrameAt 28 (setEight wi w.heap.size a' q' t' m' r' s' k' v') w.heap.size a' q' t' m' r' s' k' v' ∧ Below w.heap.size w (setEight wi w.heap.size a' q' t' m' r' s' k' v') ∧ Own 2 (setEight wi w.heap.size a' q' t' m' r' s' k' v') w.heap.size v xs :=
  ⟨h.res.eight a' q' t' m' r' s' k' v', h.below.trans (below_eight (Nat.le_refl _) a' q' t' m' r' s' k' v'), (h.own.awayEight (by omega) a' q' t' m' r' s' k' v').more (by omega)⟩
end
/-- The frame that has been handed back is laid in a new block. -/
theorem FromSt.start {w w1 : World} {a q t m r s k : Int} {v : Value} {xs : List Int} (hb : Below (w.alloc (.cells #[.int .i64 0, .int .i64 0, .int .i64 0, .int .i64 0, .int .i64 0, .int .i64 0, .int .i64 0, .slice none 0 0] 28)).heap.size (w.alloc (.cells #[.int .i64 0, .int .i64 0, .int .i64 0, .int .i64 0, .int .i64 0, .int .i64 0, .int .i64 0, .slice none 0 0] 28)) w1) (ho : Own 2 w1 (w.alloc (.cells #[.int .i64 0, .int .i64 0, .int .i64 0, .int .i64 0, .int .i64 0, .int .i64 0, .int .i64 0, .slice none 0 0] 28)).heap.size v xs) :
    FromSt w (w1.alloc (.cells #[.int .i64 a, .int .i64 q, .int .i64 t, .int .i64 m, .int .i64 r, .int .i64 s, .int .i64 k, v] 28)) w1.heap.size a q t m r s k v xs := by
  have r0 := frame_new hb
  have e : (w.alloc (.cells #[.int .i64 0, .int .i64 0, .int .i64 0, .int .i64 0, .int .i64 0, .int .i64 0, .int .i64 0, .slice none 0 0] 28)).heap.size = w.heap.size + 1 := by simp
  have b1 : Below w1.heap.size w1 (w1.alloc (.cells #[.int .i64 a, .int .i64 q, .int .i64 t, .int .i64 m, .int .i64 r, .int .i64 s, .int .i64 k, v] 28)) := (Below.refl _ _).alloc (Nat.le_refl _) _
  rw [e] at ho
  exact ⟨r0.below b1 r0.lt, FrameAt.new w1, r0.lt, below_two (below_box hb) b1, ho.below b1⟩
theorem ff_range {xs : List Int} (h : isBytes xs = false) : frameFrom xs = (Fr.zero, 2) := by unfold frameFrom; rw [if_pos h]
theorem ff_none {xs : List Int} (h : isBytes xs = true) (h2 : readFrame xs = none) : frameFrom xs = (Fr.zero, 6) := by unfold frameFrom; rw [if_neg (by rw [h]; simp), h2]
theorem ff_no {xs : List Int} {f : Fr} (h : isBytes xs = true) (h2 : readFrame xs = some f) (h3 : ¬ (isFrame f = true ∧ frameBytes f = xs)) : frameFrom xs = (Fr.zero, 6) := by unfold frameFrom; rw [if_neg (by rw [h]; simp), h2]; simp only; rw [if_neg h3]
theorem ff_yes {xs : List Int} {f : Fr} (h : isBytes xs = true) (h2 : readFrame xs = some f) (h3 : isFrame f = true) (h4 : frameBytes f = xs) : frameFrom xs = (f, 0) := by unfold frameFrom; rw [if_neg (by rw [h]; simp), h2]; simp only; rw [if_pos ⟨h3, h4⟩]
theorem readFrame_len {xs : List Int} {f : Fr} (h : readFrame xs = some f) : f.data.length ≤ xs.length := by
  unfold readFrame at h
  split at h
  · cases h
  · split at h
    · split at h
      · cases h
      · split at h
        · split at h
          · cases h
          · cases h; simp
        · cases h; simp
    · split at h
      · split at h
        · cases h
        · cases h; simp
      · cases h; simp

set_option linter.unusedVariables false in
set_option maxRecDepth 100000 in
theorem from_range (ao : Option Addr) (cap : Nat) (xs : List Int) (w : World) (hr : Rd w ao xs.length xs) (hn : xs.length ≤ 1048576) (hcap : xs.length ≤ cap) (hcap2 : cap ≤ 9223372036854775807) (hb : isBytes xs = false) :
    Calls Try.prog 19 #[.slice ao xs.length cap] w (GivesFB w Fr.zero (.int .i64 2)) := by
  have hb0 : Below w.heap.size w (w.alloc (.cells #[.int .i64 0, .int .i64 0, .int .i64 0, .int .i64 0, .int .i64 0, .int .i64 0, .int .i64 0, .slice none 0 0] 28)) := (Below.refl _ _).alloc (Nat.le_refl _) _
  have HR := Lib.hid (hr.below hb0); have HR0 := Lib.hid hr; clear hb0 hr
  have HB := Lib.hid hb; clear hb
  go_enter Try.func19, Try.ntmps19
  go_wp2_with (go_at_call 46; refine (isBytes_any _ _ _ _ _ HR.out (by omega)).mono ?_; rintro e w' ⟨rfl, rfl⟩; rw [HB.out])
  exact bodyPost_ret (v := .tuple #[.agg #[.int .i64 0, .int .i64 0, .int .i64 0, .int .i64 0, .int .i64 0, .int .i64 0, .int .i64 0, .slice none 0 0], .int .i64 2]) (by simp [results, Try.results19, go_sem]) rfl ⟨_, _, rfl, Own.nil_, (Below.refl _ _).alloc (Nat.le_refl _) _⟩
set_option maxHeartbeats 1000000 in
set_option linter.unusedVariables false in
set_option maxRecDepth 100000 in
theorem from_none (ao : Option Addr) (cap : Nat) (xs : List Int) (w : World) (hr : Rd w ao xs.length xs) (hn : xs.length ≤ 1048576) (hcap : xs.length ≤ cap) (hcap2 : cap ≤ 9223372036854775807) (d : List Int) (hd : d = []) (hb : isBytes xs = true) (hf : readFrame xs = none) :
    Calls Try.prog 19 #[.slice ao xs.length cap] w (GivesFB w Fr.zero (.int .i64 6)) := by
  have hb0 : Below w.heap.size w (w.alloc (.cells #[.int .i64 0, .int .i64 0, .int .i64 0, .int .i64 0, .int .i64 0, .int .i64 0, .int .i64 0, .slice none 0 0] 28)) := (Below.refl _ _).alloc (Nat.le_refl _) _
  have HR := Lib.hid (hr.below hb0); have HR0 := Lib.hid hr; clear hb0 hr
  have hG : ∀ W e w', GivesOpt W (readFrame xs) e w' → GivesFB W ⟨0, 0, 0, 0, 0, 0, 0, d⟩ (.bool false) e w' := by intro W e w' h; rw [hf] at h; rw [hd]; exact h
  have hdl : d.length ≤ xs.length := by rw [hd]; exact Nat.zero_le _
  have hlen : (frameBody ⟨0, 0, 0, 0, 0, 0, 0, d⟩).1.length ≤ 42 := frameBody_len _
  obtain ⟨r0, r1, hFB⟩ : ∃ r0 r1, frameBody ⟨0, 0, 0, 0, 0, 0, 0, d⟩ = (r0, r1) := ⟨_, _, rfl⟩
  rw [hFB] at hlen
  have HB := Lib.hid hb; have HG := Lib.hid hG; have HFB := Lib.hid hFB; have HL := Lib.hid hlen; have HDL := Lib.hid hdl; clear hf hFB hlen hdl hG
  clear hb hd
  go_enter Try.func19, Try.ntmps19
  go_wp2_with (go_at_call 46; refine (isBytes_any _ _ _ _ _ HR.out (by omega)).mono ?_; rintro e w' ⟨rfl, rfl⟩; rw [HB.out])
  refine (readBody_any _ _ _ _ HR.out HB.out hcap hcap2).mono ?_
  intro e w1 h1
  obtain ⟨p1, c1, rfl, o1, b1⟩ := HG.out _ _ _ h1
  clear h1
  simp only at o1 ⊢
  have S1 := Lib.hid (FromSt.start (a := 0) (q := 0) (t := 0) (m := 0) (r := 0) (s := 0) (k := 0) b1 o1)
  clear b1 o1
  go_wp2_with fail
  obtain ⟨J, hJ⟩ : ∃ b, b = w1.heap.size := ⟨_, rfl⟩
  rw [← hJ] at S1 ⊢
  clear hJ
  generalize w1.alloc (.cells #[.int .i64 0, .int .i64 0, .int .i64 0, .int .i64 0, .int .i64 0, .int .i64 0, .int .i64 0, .slice p1 d.length c1] 28) = w2 at S1 ⊢
  obtain ⟨ao', cap', e', -, RD⟩ := S1.out.own.get
  cases e'
  refine (frameBody_any _ _ _ _ _ _ _ _ _ _ _ RD (by have := HDL.out; omega)).mono ?_
  rintro e w3 m3
  rw [HFB.out] at m3
  change Makes2 2 _ r0 r1 _ _ at m3
  obtain ⟨p3, c3, rfl, -, r3, b3⟩ := m3.get
  have S3 := Lib.hid (S1.out.call b3)
  have R3 := Lib.hid r3
  clear m3 r3 b3 RD S1
  have d0 := S3.out.res.c0
  have d1 := S3.out.res.c1
  have d2 := S3.out.res.c2
  have d3 := S3.out.res.c3
  have d4 := S3.out.res.c4
  have d5 := S3.out.res.c5
  have d6 := S3.out.res.c6
  have d7 := S3.out.res.c7
  have f0 := S3.out.res.f 0
  have f1 := S3.out.res.f 1
  have f2 := S3.out.res.f 2
  have f3 := S3.out.res.f 3
  have f4 := S3.out.res.f 4
  have f5 := S3.out.res.f 5
  have f6 := S3.out.res.f 6
  have f7 := S3.out.res.f 7
  go_wp2_with fail
  clear d0 d1 d2 d3 d4 d5 d6 d7 f0 f1 f2 f3 f4 f5 f6 f7
  change bodyPost _ _ _ _ _ (setEight w3 w.heap.size 0 0 0 0 0 0 0 (.slice none 0 0))
  obtain ⟨SF, BF, OF⟩ := S3.out.fin 0 0 0 0 0 0 0 (.slice none 0 0)
  generalize setEight w3 w.heap.size 0 0 0 0 0 0 0 (.slice none 0 0) = wz at SF BF OF ⊢
  have e0 := SF.c0
  have e1 := SF.c1
  have e2 := SF.c2
  have e3 := SF.c3
  have e4 := SF.c4
  have e5 := SF.c5
  have e6 := SF.c6
  have e7 := SF.c7
  exact bodyPost_ret (v := .tuple #[.agg #[.int .i64 0, .int .i64 0, .int .i64 0, .int .i64 0, .int .i64 0, .int .i64 0, .int .i64 0, .slice none 0 0], .int .i64 6]) (by simp [results, Try.results19, go_sem, e0, e1, e2, e3, e4, e5, e6, e7]) rfl ⟨_, _, rfl, Own.nil_, BF⟩
set_option maxHeartbeats 1000000 in
set_option linter.unusedVariables false in
set_option maxRecDepth 100000 in
theorem from_bad (ao : Option Addr) (cap : Nat) (xs : List Int) (w : World) (hr : Rd w ao xs.length xs) (hn : xs.length ≤ 1048576) (hcap : xs.length ≤ cap) (hcap2 : cap ≤ 9223372036854775807) (a q t m r s k : Int) (d : List Int) (hb : isBytes xs = true) (hf : readFrame xs = some ⟨a, q, t, m, r, s, k, d⟩) (hi : isFrame ⟨a, q, t, m, r, s, k, d⟩ = false) :
    Calls Try.prog 19 #[.slice ao xs.length cap] w (GivesFB w Fr.zero (.int .i64 6)) := by
  have hb0 : Below w.heap.size w (w.alloc (.cells #[.int .i64 0, .int .i64 0, .int .i64 0, .int .i64 0, .int .i64 0, .int .i64 0, .int .i64 0, .slice none 0 0] 28)) := (Below.refl _ _).alloc (Nat.le_refl _) _
  have HR := Lib.hid (hr.below hb0); have HR0 := Lib.hid hr; clear hb0 hr
  have hG : ∀ W e w', GivesOpt W (readFrame xs) e w' → GivesFB W ⟨a, q, t, m, r, s, k, d⟩ (.bool true) e w' := by intro W e w' h; rw [hf] at h; exact h
  have hdl := readFrame_len hf
  simp only at hdl
  have hlen : (frameBody ⟨a, q, t, m, r, s, k, d⟩).1.length ≤ 42 := frameBody_len _
  obtain ⟨r0, r1, hFB⟩ : ∃ r0 r1, frameBody ⟨a, q, t, m, r, s, k, d⟩ = (r0, r1) := ⟨_, _, rfl⟩
  rw [hFB] at hlen
  have hne : (r1 != 0) = true := by have h := body_no hi; rw [hFB] at h; simp only [Prod.mk.injEq] at h; rw [h.2]; rfl
  have HB := Lib.hid hb; have HG := Lib.hid hG; have HFB := Lib.hid hFB; have HL := Lib.hid hlen; have HDL := Lib.hid hdl; clear hf hFB hlen hdl hG
  clear hb hi
  go_enter Try.func19, Try.ntmps19
  go_wp2_with (go_at_call 46; refine (isBytes_any _ _ _ _ _ HR.out (by omega)).mono ?_; rintro e w' ⟨rfl, rfl⟩; rw [HB.out])
  refine (readBody_any _ _ _ _ HR.out HB.out hcap hcap2).mono ?_
  intro e w1 h1
  obtain ⟨p1, c1, rfl, o1, b1⟩ := HG.out _ _ _ h1
  clear h1
  simp only at o1 ⊢
  have S1 := Lib.hid (FromSt.start (a := a) (q := q) (t := t) (m := m) (r := r) (s := s) (k := k) b1 o1)
  clear b1 o1
  go_wp2_with fail
  obtain ⟨J, hJ⟩ : ∃ b, b = w1.heap.size := ⟨_, rfl⟩
  rw [← hJ] at S1 ⊢
  clear hJ
  generalize w1.alloc (.cells #[.int .i64 a, .int .i64 q, .int .i64 t, .int .i64 m, .int .i64 r, .int .i64 s, .int .i64 k, .slice p1 d.length c1] 28) = w2 at S1 ⊢
  obtain ⟨ao', cap', e', -, RD⟩ := S1.out.own.get
  cases e'
  refine (frameBody_any _ _ _ _ _ _ _ _ _ _ _ RD (by have := HDL.out; omega)).mono ?_
  rintro e w3 m3
  rw [HFB.out] at m3
  change Makes2 2 _ r0 r1 _ _ at m3
  obtain ⟨p3, c3, rfl, -, r3, b3⟩ := m3.get
  have S3 := Lib.hid (S1.out.call b3)
  have R3 := Lib.hid r3
  clear m3 r3 b3 RD S1
  have d0 := S3.out.res.c0
  have d1 := S3.out.res.c1
  have d2 := S3.out.res.c2
  have d3 := S3.out.res.c3
  have d4 := S3.out.res.c4
  have d5 := S3.out.res.c5
  have d6 := S3.out.res.c6
  have d7 := S3.out.res.c7
  have f0 := S3.out.res.f 0
  have f1 := S3.out.res.f 1
  have f2 := S3.out.res.f 2
  have f3 := S3.out.res.f 3
  have f4 := S3.out.res.f 4
  have f5 := S3.out.res.f 5
  have f6 := S3.out.res.f 6
  have f7 := S3.out.res.f 7
  go_wp2_with fail
  clear d0 d1 d2 d3 d4 d5 d6 d7 f0 f1 f2 f3 f4 f5 f6 f7
  change bodyPost _ _ _ _ _ (setEight w3 w.heap.size 0 0 0 0 0 0 0 (.slice none 0 0))
  obtain ⟨SF, BF, OF⟩ := S3.out.fin 0 0 0 0 0 0 0 (.slice none 0 0)
  generalize setEight w3 w.heap.size 0 0 0 0 0 0 0 (.slice none 0 0) = wz at SF BF OF ⊢
  have e0 := SF.c0
  have e1 := SF.c1
  have e2 := SF.c2
  have e3 := SF.c3
  have e4 := SF.c4
  have e5 := SF.c5
  have e6 := SF.c6
  have e7 := SF.c7
  exact bodyPost_ret (v := .tuple #[.agg #[.int .i64 0, .int .i64 0, .int .i64 0, .int .i64 0, .int .i64 0, .int .i64 0, .int .i64 0, .slice none 0 0], .int .i64 6]) (by simp [results, Try.results19, go_sem, e0, e1, e2, e3, e4, e5, e6, e7]) rfl ⟨_, _, rfl, Own.nil_, BF⟩
set_option maxHeartbeats 1000000 in
set_option linter.unusedVariables false in
set_option maxRecDepth 100000 in
theorem from_other (ao : Option Addr) (cap : Nat) (xs : List Int) (w : World) (hr : Rd w ao xs.length xs) (hn : xs.length ≤ 1048576) (hcap : xs.length ≤ cap) (hcap2 : cap ≤ 9223372036854775807) (a q t m r s k : Int) (d : List Int) (hb : isBytes xs = true) (hf : readFrame xs = some ⟨a, q, t, m, r, s, k, d⟩) (hi : isFrame ⟨a, q, t, m, r, s, k, d⟩ = true) (hx : frameBytes ⟨a, q, t, m, r, s, k, d⟩ ≠ xs) :
    Calls Try.prog 19 #[.slice ao xs.length cap] w (GivesFB w Fr.zero (.int .i64 6)) := by
  have hb0 : Below w.heap.size w (w.alloc (.cells #[.int .i64 0, .int .i64 0, .int .i64 0, .int .i64 0, .int .i64 0, .int .i64 0, .int .i64 0, .slice none 0 0] 28)) := (Below.refl _ _).alloc (Nat.le_refl _) _
  have HR := Lib.hid (hr.below hb0); have HR0 := Lib.hid hr; clear hb0 hr
  have hG : ∀ W e w', GivesOpt W (readFrame xs) e w' → GivesFB W ⟨a, q, t, m, r, s, k, d⟩ (.bool true) e w' := by intro W e w' h; rw [hf] at h; exact h
  have hdl := readFrame_len hf
  simp only at hdl
  have hlen : (frameBody ⟨a, q, t, m, r, s, k, d⟩).1.length ≤ 42 := frameBody_len _
  obtain ⟨r0, r1, hFB⟩ : ∃ r0 r1, frameBody ⟨a, q, t, m, r, s, k, d⟩ = (r0, r1) := ⟨_, _, rfl⟩
  rw [hFB] at hlen
  have hne : (r1 != 0) = false := by have h := body_ok hi; rw [hFB] at h; simp only [Prod.mk.injEq] at h; rw [h.2]; rfl
  have hr0 : r0 = frameBytes ⟨a, q, t, m, r, s, k, d⟩ := by have h := body_ok hi; rw [hFB] at h; simp only [Prod.mk.injEq] at h; exact h.1
  have hdec : decide (r0 = xs) = false := by rw [hr0]; exact decide_eq_false hx
  have HDEC := Lib.hid hdec; clear hdec
  have HB := Lib.hid hb; have HG := Lib.hid hG; have HFB := Lib.hid hFB; have HL := Lib.hid hlen; have HDL := Lib.hid hdl; clear hf hFB hlen hdl hG
  clear hb hi hx hr0
  go_enter Try.func19, Try.ntmps19
  go_wp2_with (go_at_call 46; refine (isBytes_any _ _ _ _ _ HR.out (by omega)).mono ?_; rintro e w' ⟨rfl, rfl⟩; rw [HB.out])
  refine (readBody_any _ _ _ _ HR.out HB.out hcap hcap2).mono ?_
  intro e w1 h1
  obtain ⟨p1, c1, rfl, o1, b1⟩ := HG.out _ _ _ h1
  clear h1
  simp only at o1 ⊢
  have S1 := Lib.hid (FromSt.start (a := a) (q := q) (t := t) (m := m) (r := r) (s := s) (k := k) b1 o1)
  clear b1 o1
  go_wp2_with fail
  obtain ⟨J, hJ⟩ : ∃ b, b = w1.heap.size := ⟨_, rfl⟩
  rw [← hJ] at S1 ⊢
  clear hJ
  generalize w1.alloc (.cells #[.int .i64 a, .int .i64 q, .int .i64 t, .int .i64 m, .int .i64 r, .int .i64 s, .int .i64 k, .slice p1 d.length c1] 28) = w2 at S1 ⊢
  obtain ⟨ao', cap', e', -, RD⟩ := S1.out.own.get
  cases e'
  refine (frameBody_any _ _ _ _ _ _ _ _ _ _ _ RD (by have := HDL.out; omega)).mono ?_
  rintro e w3 m3
  rw [HFB.out] at m3
  change Makes2 2 _ r0 r1 _ _ at m3
  obtain ⟨p3, c3, rfl, -, r3, b3⟩ := m3.get
  have S3 := Lib.hid (S1.out.call b3)
  have R3 := Lib.hid r3
  clear m3 r3 b3 RD S1
  go_wp2_with (go_at_call 54; refine (equal_any _ _ _ _ _ _ _ _ _ R3.out (HR0.out.below S3.out.below) (by have := HL.out; omega) (by omega)).mono ?_; rintro e w4 ⟨rfl, q4, rfl⟩; rw [HDEC.out]; have S4 := Lib.hid (S3.out.call (below_drewN' (Below.refl _ _) q4)); have d0 := S4.out.res.c0; have d1 := S4.out.res.c1; have d2 := S4.out.res.c2; have d3 := S4.out.res.c3; have d4 := S4.out.res.c4; have d5 := S4.out.res.c5; have d6 := S4.out.res.c6; have d7 := S4.out.res.c7; have f0 := S4.out.res.f 0; have f1 := S4.out.res.f 1; have f2 := S4.out.res.f 2; have f3 := S4.out.res.f 3; have f4 := S4.out.res.f 4; have f5 := S4.out.res.f 5; have f6 := S4.out.res.f 6; have f7 := S4.out.res.f 7)
  clear d0 d1 d2 d3 d4 d5 d6 d7 f0 f1 f2 f3 f4 f5 f6 f7
  change bodyPost _ _ _ _ _ (setEight (w3.drewN q4) w.heap.size 0 0 0 0 0 0 0 (.slice none 0 0))
  obtain ⟨SF, BF, OF⟩ := S4.out.fin 0 0 0 0 0 0 0 (.slice none 0 0)
  generalize setEight (w3.drewN q4) w.heap.size 0 0 0 0 0 0 0 (.slice none 0 0) = wz at SF BF OF ⊢
  have e0 := SF.c0
  have e1 := SF.c1
  have e2 := SF.c2
  have e3 := SF.c3
  have e4 := SF.c4
  have e5 := SF.c5
  have e6 := SF.c6
  have e7 := SF.c7
  exact bodyPost_ret (v := .tuple #[.agg #[.int .i64 0, .int .i64 0, .int .i64 0, .int .i64 0, .int .i64 0, .int .i64 0, .int .i64 0, .slice none 0 0], .int .i64 6]) (by simp [results, Try.results19, go_sem, e0, e1, e2, e3, e4, e5, e6, e7]) rfl ⟨_, _, rfl, Own.nil_, BF⟩
set_option maxHeartbeats 1000000 in
set_option linter.unusedVariables false in
set_option maxRecDepth 100000 in
theorem from_yes (ao : Option Addr) (cap : Nat) (xs : List Int) (w : World) (hr : Rd w ao xs.length xs) (hn : xs.length ≤ 1048576) (hcap : xs.length ≤ cap) (hcap2 : cap ≤ 9223372036854775807) (a q t m r s k : Int) (d : List Int) (hb : isBytes xs = true) (hf : readFrame xs = some ⟨a, q, t, m, r, s, k, d⟩) (hi : isFrame ⟨a, q, t, m, r, s, k, d⟩ = true) (hx : frameBytes ⟨a, q, t, m, r, s, k, d⟩ = xs) :
    Calls Try.prog 19 #[.slice ao xs.length cap] w (GivesFB w ⟨a, q, t, m, r, s, k, d⟩ (.int .i64 0)) := by
  have hb0 : Below w.heap.size w (w.alloc (.cells #[.int .i64 0, .int .i64 0, .int .i64 0, .int .i64 0, .int .i64 0, .int .i64 0, .int .i64 0, .slice none 0 0] 28)) := (Below.refl _ _).alloc (Nat.le_refl _) _
  have HR := Lib.hid (hr.below hb0); have HR0 := Lib.hid hr; clear hb0 hr
  have hG : ∀ W e w', GivesOpt W (readFrame xs) e w' → GivesFB W ⟨a, q, t, m, r, s, k, d⟩ (.bool true) e w' := by intro W e w' h; rw [hf] at h; exact h
  have hdl := readFrame_len hf
  simp only at hdl
  have hlen : (frameBody ⟨a, q, t, m, r, s, k, d⟩).1.length ≤ 42 := frameBody_len _
  obtain ⟨r0, r1, hFB⟩ : ∃ r0 r1, frameBody ⟨a, q, t, m, r, s, k, d⟩ = (r0, r1) := ⟨_, _, rfl⟩
  rw [hFB] at hlen
  have hne : (r1 != 0) = false := by have h := body_ok hi; rw [hFB] at h; simp only [Prod.mk.injEq] at h; rw [h.2]; rfl
  have hr0 : r0 = frameBytes ⟨a, q, t, m, r, s, k, d⟩ := by have h := body_ok hi; rw [hFB] at h; simp only [Prod.mk.injEq] at h; exact h.1
  have hdec : decide (r0 = xs) = true := by rw [hr0]; exact decide_eq_true hx
  have HDEC := Lib.hid hdec; clear hdec
  have HB := Lib.hid hb; have HG := Lib.hid hG; have HFB := Lib.hid hFB; have HL := Lib.hid hlen; have HDL := Lib.hid hdl; clear hf hFB hlen hdl hG
  clear hb hi hx hr0
  go_enter Try.func19, Try.ntmps19
  go_wp2_with (go_at_call 46; refine (isBytes_any _ _ _ _ _ HR.out (by omega)).mono ?_; rintro e w' ⟨rfl, rfl⟩; rw [HB.out])
  refine (readBody_any _ _ _ _ HR.out HB.out hcap hcap2).mono ?_
  intro e w1 h1
  obtain ⟨p1, c1, rfl, o1, b1⟩ := HG.out _ _ _ h1
  clear h1
  simp only at o1 ⊢
  have S1 := Lib.hid (FromSt.start (a := a) (q := q) (t := t) (m := m) (r := r) (s := s) (k := k) b1 o1)
  clear b1 o1
  go_wp2_with fail
  obtain ⟨J, hJ⟩ : ∃ b, b = w1.heap.size := ⟨_, rfl⟩
  rw [← hJ] at S1 ⊢
  clear hJ
  generalize w1.alloc (.cells #[.int .i64 a, .int .i64 q, .int .i64 t, .int .i64 m, .int .i64 r, .int .i64 s, .int .i64 k, .slice p1 d.length c1] 28) = w2 at S1 ⊢
  obtain ⟨ao', cap', e', -, RD⟩ := S1.out.own.get
  cases e'
  refine (frameBody_any _ _ _ _ _ _ _ _ _ _ _ RD (by have := HDL.out; omega)).mono ?_
  rintro e w3 m3
  rw [HFB.out] at m3
  change Makes2 2 _ r0 r1 _ _ at m3
  obtain ⟨p3, c3, rfl, -, r3, b3⟩ := m3.get
  have S3 := Lib.hid (S1.out.call b3)
  have R3 := Lib.hid r3
  clear m3 r3 b3 RD S1
  go_wp2_with (go_at_call 54; refine (equal_any _ _ _ _ _ _ _ _ _ R3.out (HR0.out.below S3.out.below) (by have := HL.out; omega) (by omega)).mono ?_; rintro e w4 ⟨rfl, q4, rfl⟩; rw [HDEC.out]; have S4 := Lib.hid (S3.out.call (below_drewN' (Below.refl _ _) q4)); have d0 := S4.out.res.c0; have d1 := S4.out.res.c1; have d2 := S4.out.res.c2; have d3 := S4.out.res.c3; have d4 := S4.out.res.c4; have d5 := S4.out.res.c5; have d6 := S4.out.res.c6; have d7 := S4.out.res.c7; have f0 := S4.out.res.f 0; have f1 := S4.out.res.f 1; have f2 := S4.out.res.f 2; have f3 := S4.out.res.f 3; have f4 := S4.out.res.f 4; have f5 := S4.out.res.f 5; have f6 := S4.out.res.f 6; have f7 := S4.out.res.f 7; have c0' := S4.out.var.c0; have c1' := S4.out.var.c1; have c2' := S4.out.var.c2; have c3' := S4.out.var.c3; have c4' := S4.out.var.c4; have c5' := S4.out.var.c5; have c6' := S4.out.var.c6; have c7' := S4.out.var.c7)
  clear d0 d1 d2 d3 d4 d5 d6 d7 f0 f1 f2 f3 f4 f5 f6 f7
  clear c0' c1' c2' c3' c4' c5' c6' c7'
  change bodyPost _ _ _ _ _ (setEight (w3.drewN q4) w.heap.size a q t m r s k (.slice p1 d.length c1))
  obtain ⟨SF, BF, OF⟩ := S4.out.fin a q t m r s k (.slice p1 d.length c1)
  generalize setEight (w3.drewN q4) w.heap.size a q t m r s k (.slice p1 d.length c1) = wz at SF BF OF ⊢
  have e0 := SF.c0
  have e1 := SF.c1
  have e2 := SF.c2
  have e3 := SF.c3
  have e4 := SF.c4
  have e5 := SF.c5
  have e6 := SF.c6
  have e7 := SF.c7
  exact bodyPost_ret (v := .tuple #[.agg #[.int .i64 a, .int .i64 q, .int .i64 t, .int .i64 m, .int .i64 r, .int .i64 s, .int .i64 k, .slice p1 d.length c1], .int .i64 0]) (by simp [results, Try.results19, go_sem, e0, e1, e2, e3, e4, e5, e6, e7]) rfl ⟨_, _, rfl, OF, BF⟩
theorem frameFromBody_any (ao : Option Addr) (cap : Nat) (xs : List Int) (w : World) (hr : Rd w ao xs.length xs) (hn : xs.length ≤ 1048576) (hcap : xs.length ≤ cap) (hcap2 : cap ≤ 9223372036854775807) :
    Calls Try.prog 19 #[.slice ao xs.length cap] w (GivesFB w (frameFrom xs).1 (.int .i64 (frameFrom xs).2)) := by
  rcases hb : isBytes xs with _ | _
  · rw [ff_range hb]; exact from_range ao cap xs w hr hn hcap hcap2 hb
  rcases hf : readFrame xs with _ | f
  · rw [ff_none hb hf]; exact from_none ao cap xs w hr hn hcap hcap2 [] rfl hb hf
  obtain ⟨a, q, t, m, r, s, k, d⟩ := f
  rcases hi : isFrame ⟨a, q, t, m, r, s, k, d⟩ with _ | _
  · rw [ff_no hb hf (fun h => by rw [hi] at h; cases h.1)]; exact from_bad ao cap xs w hr hn hcap hcap2 a q t m r s k d hb hf hi
  by_cases hx : frameBytes ⟨a, q, t, m, r, s, k, d⟩ = xs
  · rw [ff_yes hb hf hi hx]; exact from_yes ao cap xs w hr hn hcap hcap2 a q t m r s k d hb hf hi hx
  · rw [ff_no hb hf (fun h => hx h.2)]; exact from_other ao cap xs w hr hn hcap hcap2 a q t m r s k d hb hf hi hx
end Go.Proofs.Ytnblbemkpojjdaa
