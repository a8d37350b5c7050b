/-
  Chapter 7: OpenFrame of the program.
-/
import Derived.Test.YtbdfnkhmnglpbaaH4
import Derived.Test.YtbdfnkhmnglpbaaSixE
import Derived.Test.YtbdfnkhmnglpbaaGI
namespace Go.Proofs.Ytbdfnkhmnglpbaa
open Go.RowKit

/-- The state that a call lays first, and the block of its result, still the zero value. -/
structure OpenSt (w wi : World) (t m r s k : Int) : Prop where
  st : StateAt 25 wi w.heap.size t m r s k
  res : FrameAt 28 wi (w.heap.size + 1) 0 0 0 0 0 0 0 (.slice none 0 0)
  below : Below w.heap.size w wi
section
variable {w wi wj : World} {t m r s k : Int}
theorem OpenSt.call (h : OpenSt w wi t m r s k) (b : Below wi.heap.size wi wj) : OpenSt w wj t m r s k := ⟨h.st.below b h.st.lt, h.res.below b h.res.lt, below_two h.below b⟩
theorem OpenSt.drew (h : OpenSt w wi t m r s k) : OpenSt w wi.drew t m r s k := h.call (Below.drew (Below.refl _ _))
theorem OpenSt.size (h : OpenSt w wi t m r s k) : w.heap.size + 2 ≤ wi.heap.size := h.res.lt
theorem OpenSt.start (w : World) : OpenSt w ((w.alloc (.cells #[.int .i64 t, .int .i64 m, .int .i64 r, .int .i64 s, .int .i64 k] 25)).alloc (.cells #[.int .i64 0, .int .i64 0, .int .i64 0, .int .i64 0, .int .i64 0, .int .i64 0, .int .i64 0, .slice none 0 0] 28)) t m r s k := by
  have e1 : (w.alloc (.cells #[.int .i64 t, .int .i64 m, .int .i64 r, .int .i64 s, .int .i64 k] 25)).heap.size = w.heap.size + 1 := by simp
  have h0 : StateAt 25 (w.alloc (.cells #[.int .i64 t, .int .i64 m, .int .i64 r, .int .i64 s, .int .i64 k] 25)) w.heap.size t m r s k := StateAt.new w
  have h1 : FrameAt 28 ((w.alloc (.cells #[.int .i64 t, .int .i64 m, .int .i64 r, .int .i64 s, .int .i64 k] 25)).alloc (.cells #[.int .i64 0, .int .i64 0, .int .i64 0, .int .i64 0, .int .i64 0, .int .i64 0, .int .i64 0, .slice none 0 0] 28)) (w.alloc (.cells #[.int .i64 t, .int .i64 m, .int .i64 r, .int .i64 s, .int .i64 k] 25)).heap.size 0 0 0 0 0 0 0 (.slice none 0 0) := FrameAt.new _
  rw [e1] at h1
  exact ⟨h0.below (Below.alloc (Below.refl _ _) (Nat.le_refl _) _) h0.lt, h1, ((Below.refl _ _).alloc (Nat.le_refl _) _).alloc (by simp) _⟩
/-- The result is written. -/
theorem OpenSt.fin (h : OpenSt w wi t m r s k) (a' q' t' m' r' s' k' : Int) (v' : Value) : FrameAt 28 (setEight wi (w.heap.size + 1) a' q' t' m' r' s' k' v') (w.heap.size + 1) a' q' t' m' r' s' k' v' ∧ Below w.heap.size w (setEight wi (w.heap.size + 1) a' q' t' m' r' s' k' v') :=
  ⟨h.res.eight a' q' t' m' r' s' k' v', h.below.trans (below_eight (Nat.le_succ _) a' q' t' m' r' s' k' v')⟩
theorem OpenSt.cells (h : OpenSt w wi t m r s k) : wi.cell? ⟨w.heap.size, 0, none⟩ = some (.int .i64 t) ∧ wi.cell? ⟨w.heap.size, 1, none⟩ = some (.int .i64 m) ∧ wi.cell? ⟨w.heap.size, 2, none⟩ = some (.int .i64 r) ∧ wi.cell? ⟨w.heap.size, 3, none⟩ = some (.int .i64 s) ∧ wi.cell? ⟨w.heap.size, 4, none⟩ = some (.int .i64 k) := state_cells h.st
end
theorem state_neq_other {t m r s k t' m' r' s' k' : Int} (h : ¬ (t = t' ∧ m = m' ∧ r = r' ∧ s = s' ∧ k = k')) (w : World) : (binOp .neq 25 (.agg #[.int .i64 t, .int .i64 m, .int .i64 r, .int .i64 s, .int .i64 k]) (.agg #[.int .i64 t', .int .i64 m', .int .i64 r', .int .i64 s', .int .i64 k'])).run Try.prog w = .ok (.bool true) w := by
  have he := state_eql t m r s k t' m' r' s' k' w
  rw [decide_eq_false h, run_eql_struct] at he
  rw [run_neq_struct]
  rcases hq : (Op.equalIn 10000 25 (.agg #[.int .i64 t, .int .i64 m, .int .i64 r, .int .i64 s, .int .i64 k]) (.agg #[.int .i64 t', .int .i64 m', .int .i64 r', .int .i64 s', .int .i64 k'])).run Try.prog w with ⟨b, w'⟩ | _
  · rw [hq] at he
    simp [Result.andThen] at he ⊢
    exact he
  · rw [hq] at he
    simp [Result.andThen] at he
theorem state_neq_same (t m r s k : Int) (w : World) : (binOp .neq 25 (.agg #[.int .i64 t, .int .i64 m, .int .i64 r, .int .i64 s, .int .i64 k]) (.agg #[.int .i64 t, .int .i64 m, .int .i64 r, .int .i64 s, .int .i64 k])).run Try.prog w = .ok (.bool false) w := by
  have he := state_eql t m r s k t m r s k w
  rw [run_eql_struct] at he
  rw [run_neq_struct]
  rcases hq : (Op.equalIn 10000 25 (.agg #[.int .i64 t, .int .i64 m, .int .i64 r, .int .i64 s, .int .i64 k]) (.agg #[.int .i64 t, .int .i64 m, .int .i64 r, .int .i64 s, .int .i64 k])).run Try.prog w with ⟨b, w'⟩ | _
  · rw [hq] at he
    simp [Result.andThen] at he ⊢
    exact he
  · rw [hq] at he
    simp [Result.andThen] at he
theorem three_iff {xs : List Int} {x : Int} (hl : 3 ≤ xs.length) (hb : ∀ x ∈ xs, 0 ≤ x ∧ x ≤ 255) : xs.drop (xs.length - 3) = three x ↔ x = lastThree xs := by
  obtain ⟨p, q, r, hd, h1, h2, h3, e⟩ := last_of hl hb
  rw [hd, e]
  unfold three
  simp only [List.cons.injEq, and_true]
  omega
theorem from_kind {xs : List Int} {f : Fr} (h : frameFrom xs = (f, 0)) : f.kind = xs.getD 0 0 / 64 := by
  obtain ⟨h1, h2⟩ := from_frame h
  rw [← h2, frameBytes_head, head_kind (isFrame_parts h1).2.1]
set_option linter.unusedSimpArgs false in
set_option linter.unusedVariables false in
set_option maxHeartbeats 1000000 in
set_option maxRecDepth 100000 in
theorem io_A (id t m r s k : Int) (ao : Option Addr) (cap : Nat) (xs : List Int) (w : World) (hr : Rd w ao xs.length xs) (hn : xs.length ≤ 1048576) (hs : isState t m r s k = false) : Calls Try.prog 25 #[.slice ao xs.length cap, .int .i64 id, .agg #[.int .i64 t, .int .i64 m, .int .i64 r, .int .i64 s, .int .i64 k]] w (GivesFB w Fr.zero (.int .i64 1)) := by
  have S0 := Lib.hid (OpenSt.start (t := t) (m := m) (r := r) (s := s) (k := k) w)
  have HR := Lib.hid hr; clear hr
  have HS := Lib.hid hs; clear hs
  go_enter Try.func25, Try.ntmps25
  go_upto_region 1 with fail
  generalize (w.alloc (.cells #[.int .i64 t, .int .i64 m, .int .i64 r, .int .i64 s, .int .i64 k] 25)).alloc (.cells #[.int .i64 0, .int .i64 0, .int .i64 0, .int .i64 0, .int .i64 0, .int .i64 0, .int .i64 0, .slice none 0 0] 28) = w0 at S0 ⊢
  obtain ⟨d0, d1, d2, d3, d4⟩ := S0.out.cells
  go_wp2_with fail
  clear d0 d1 d2 d3 d4
  refine (isState_any _ _ _ _ _ _).mono ?_
  rintro e w1 ⟨rfl, b1⟩
  rw [HS.out]
  have S1 := Lib.hid (S0.out.call b1)
  clear b1 S0
  have rc0 := S1.out.res.c0
  have rf0 := S1.out.res.f 0
  have rc1 := S1.out.res.c1
  have rf1 := S1.out.res.f 1
  have rc2 := S1.out.res.c2
  have rf2 := S1.out.res.f 2
  have rc3 := S1.out.res.c3
  have rf3 := S1.out.res.f 3
  have rc4 := S1.out.res.c4
  have rf4 := S1.out.res.f 4
  have rc5 := S1.out.res.c5
  have rf5 := S1.out.res.f 5
  have rc6 := S1.out.res.c6
  have rf6 := S1.out.res.f 6
  have rc7 := S1.out.res.c7
  have rf7 := S1.out.res.f 7
  go_wp2_with fail
  clear rc0 rf0 rc1 rf1 rc2 rf2 rc3 rf3 rc4 rf4 rc5 rf5 rc6 rf6 rc7 rf7
  change bodyPost _ _ _ _ _ (setEight w1 (w.heap.size + 1) 0 0 0 0 0 0 0 (.slice none 0 0))
  obtain ⟨SF, BF⟩ := S1.out.fin 0 0 0 0 0 0 0 (.slice none 0 0)
  generalize setEight w1 (w.heap.size + 1) 0 0 0 0 0 0 0 (.slice none 0 0) = wz at SF BF ⊢
  have e0 := SF.c0
  have e1 := SF.c1
  have e2 := SF.c2
  have e3 := SF.c3
  have e4 := SF.c4
  have e5 := SF.c5
  have e6 := SF.c6
  have e7 := SF.c7
  exact bodyPost_ret (v := .tuple #[.agg #[.int .i64 0, .int .i64 0, .int .i64 0, .int .i64 0, .int .i64 0, .int .i64 0, .int .i64 0, .slice none 0 0], .int .i64 1]) (by simp [results, Try.results25, go_sem, e0, e1, e2, e3, e4, e5, e6, e7]) rfl ⟨_, _, rfl, Own.nil_, BF⟩
set_option linter.unusedSimpArgs false in
set_option linter.unusedVariables false in
set_option maxHeartbeats 1000000 in
set_option maxRecDepth 100000 in
theorem io_B1 (id t m r s k : Int) (ao : Option Addr) (cap : Nat) (xs : List Int) (w : World) (hr : Rd w ao xs.length xs) (hn : xs.length ≤ 1048576) (hs : isState t m r s k = true) (hi : inRange 0 16777215 id = false) : Calls Try.prog 25 #[.slice ao xs.length cap, .int .i64 id, .agg #[.int .i64 t, .int .i64 m, .int .i64 r, .int .i64 s, .int .i64 k]] w (GivesFB w Fr.zero (.int .i64 2)) := by
  have S0 := Lib.hid (OpenSt.start (t := t) (m := m) (r := r) (s := s) (k := k) w)
  have HR := Lib.hid hr; clear hr
  have HS := Lib.hid hs; clear hs
  have HI := Lib.hid hi; clear hi
  go_enter Try.func25, Try.ntmps25
  go_upto_region 1 with fail
  generalize (w.alloc (.cells #[.int .i64 t, .int .i64 m, .int .i64 r, .int .i64 s, .int .i64 k] 25)).alloc (.cells #[.int .i64 0, .int .i64 0, .int .i64 0, .int .i64 0, .int .i64 0, .int .i64 0, .int .i64 0, .slice none 0 0] 28) = w0 at S0 ⊢
  obtain ⟨d0, d1, d2, d3, d4⟩ := S0.out.cells
  go_wp2_with fail
  clear d0 d1 d2 d3 d4
  refine (isState_any _ _ _ _ _ _).mono ?_
  rintro e w1 ⟨rfl, b1⟩
  rw [HS.out]
  have S1 := Lib.hid (S0.out.call b1)
  clear b1 S0
  have rc0 := S1.out.res.c0
  have rf0 := S1.out.res.f 0
  have rc1 := S1.out.res.c1
  have rf1 := S1.out.res.f 1
  have rc2 := S1.out.res.c2
  have rf2 := S1.out.res.f 2
  have rc3 := S1.out.res.c3
  have rf3 := S1.out.res.f 3
  have rc4 := S1.out.res.c4
  have rf4 := S1.out.res.f 4
  have rc5 := S1.out.res.c5
  have rf5 := S1.out.res.f 5
  have rc6 := S1.out.res.c6
  have rf6 := S1.out.res.f 6
  have rc7 := S1.out.res.c7
  have rf7 := S1.out.res.f 7
  go_wp2_with fail
  refine (isId_any _ _).mono ?_
  rintro e w2 ⟨rfl, rfl⟩
  rw [HI.out]
  go_wp2_with fail
  clear rc0 rf0 rc1 rf1 rc2 rf2 rc3 rf3 rc4 rf4 rc5 rf5 rc6 rf6 rc7 rf7
  change bodyPost _ _ _ _ _ (setEight w1 (w.heap.size + 1) 0 0 0 0 0 0 0 (.slice none 0 0))
  obtain ⟨SF, BF⟩ := S1.out.fin 0 0 0 0 0 0 0 (.slice none 0 0)
  generalize setEight w1 (w.heap.size + 1) 0 0 0 0 0 0 0 (.slice none 0 0) = wz at SF BF ⊢
  have e0 := SF.c0
  have e1 := SF.c1
  have e2 := SF.c2
  have e3 := SF.c3
  have e4 := SF.c4
  have e5 := SF.c5
  have e6 := SF.c6
  have e7 := SF.c7
  exact bodyPost_ret (v := .tuple #[.agg #[.int .i64 0, .int .i64 0, .int .i64 0, .int .i64 0, .int .i64 0, .int .i64 0, .int .i64 0, .slice none 0 0], .int .i64 2]) (by simp [results, Try.results25, go_sem, e0, e1, e2, e3, e4, e5, e6, e7]) rfl ⟨_, _, rfl, Own.nil_, BF⟩
set_option linter.unusedSimpArgs false in
set_option linter.unusedVariables false in
set_option maxHeartbeats 1000000 in
set_option maxRecDepth 100000 in
theorem io_B2 (id t m r s k : Int) (ao : Option Addr) (cap : Nat) (xs : List Int) (w : World) (hr : Rd w ao xs.length xs) (hn : xs.length ≤ 1048576) (hs : isState t m r s k = true) (hi : inRange 0 16777215 id = true) (hb : isBytes xs = false) : Calls Try.prog 25 #[.slice ao xs.length cap, .int .i64 id, .agg #[.int .i64 t, .int .i64 m, .int .i64 r, .int .i64 s, .int .i64 k]] w (GivesFB w Fr.zero (.int .i64 2)) := by
  have S0 := Lib.hid (OpenSt.start (t := t) (m := m) (r := r) (s := s) (k := k) w)
  have HR := Lib.hid hr; clear hr
  have HS := Lib.hid hs; clear hs
  have HI := Lib.hid hi; clear hi
  have HB := Lib.hid hb; clear hb
  go_enter Try.func25, Try.ntmps25
  go_upto_region 1 with fail
  generalize (w.alloc (.cells #[.int .i64 t, .int .i64 m, .int .i64 r, .int .i64 s, .int .i64 k] 25)).alloc (.cells #[.int .i64 0, .int .i64 0, .int .i64 0, .int .i64 0, .int .i64 0, .int .i64 0, .int .i64 0, .slice none 0 0] 28) = w0 at S0 ⊢
  obtain ⟨d0, d1, d2, d3, d4⟩ := S0.out.cells
  go_wp2_with fail
  clear d0 d1 d2 d3 d4
  refine (isState_any _ _ _ _ _ _).mono ?_
  rintro e w1 ⟨rfl, b1⟩
  rw [HS.out]
  have S1 := Lib.hid (S0.out.call b1)
  clear b1 S0
  go_wp2_with fail
  refine (isId_any _ _).mono ?_
  rintro e w2 ⟨rfl, rfl⟩
  rw [HI.out]
  have rc0 := S1.out.res.c0
  have rf0 := S1.out.res.f 0
  have rc1 := S1.out.res.c1
  have rf1 := S1.out.res.f 1
  have rc2 := S1.out.res.c2
  have rf2 := S1.out.res.f 2
  have rc3 := S1.out.res.c3
  have rf3 := S1.out.res.f 3
  have rc4 := S1.out.res.c4
  have rf4 := S1.out.res.f 4
  have rc5 := S1.out.res.c5
  have rf5 := S1.out.res.f 5
  have rc6 := S1.out.res.c6
  have rf6 := S1.out.res.f 6
  have rc7 := S1.out.res.c7
  have rf7 := S1.out.res.f 7
  go_wp2_with fail
  refine (isBytes_any _ _ _ _ _ (HR.out.below S1.out.below) (by omega)).mono ?_
  rintro e w2 ⟨rfl, rfl⟩
  rw [HB.out]
  go_wp2_with fail
  clear rc0 rf0 rc1 rf1 rc2 rf2 rc3 rf3 rc4 rf4 rc5 rf5 rc6 rf6 rc7 rf7
  change bodyPost _ _ _ _ _ (setEight w1 (w.heap.size + 1) 0 0 0 0 0 0 0 (.slice none 0 0))
  obtain ⟨SF, BF⟩ := S1.out.fin 0 0 0 0 0 0 0 (.slice none 0 0)
  generalize setEight w1 (w.heap.size + 1) 0 0 0 0 0 0 0 (.slice none 0 0) = wz at SF BF ⊢
  have e0 := SF.c0
  have e1 := SF.c1
  have e2 := SF.c2
  have e3 := SF.c3
  have e4 := SF.c4
  have e5 := SF.c5
  have e6 := SF.c6
  have e7 := SF.c7
  exact bodyPost_ret (v := .tuple #[.agg #[.int .i64 0, .int .i64 0, .int .i64 0, .int .i64 0, .int .i64 0, .int .i64 0, .int .i64 0, .slice none 0 0], .int .i64 2]) (by simp [results, Try.results25, go_sem, e0, e1, e2, e3, e4, e5, e6, e7]) rfl ⟨_, _, rfl, Own.nil_, BF⟩
set_option linter.unusedSimpArgs false in
set_option linter.unusedVariables false in
set_option maxHeartbeats 1000000 in
set_option maxRecDepth 100000 in
theorem io_C (id t m r s k : Int) (ao : Option Addr) (cap : Nat) (xs : List Int) (w : World) (hr : Rd w ao xs.length xs) (hn : xs.length ≤ 1048576) (hs : isState t m r s k = true) (hi : inRange 0 16777215 id = true) (hb : isBytes xs = true) (hl : xs.length < 4) : Calls Try.prog 25 #[.slice ao xs.length cap, .int .i64 id, .agg #[.int .i64 t, .int .i64 m, .int .i64 r, .int .i64 s, .int .i64 k]] w (GivesFB w Fr.zero (.int .i64 6)) := by
  have S0 := Lib.hid (OpenSt.start (t := t) (m := m) (r := r) (s := s) (k := k) w)
  have HR := Lib.hid hr; clear hr
  have HS := Lib.hid hs; clear hs
  have HI := Lib.hid hi; clear hi
  have HB := Lib.hid hb; clear hb
  have hlt : (xs.length : Int) < 4 := by omega
  go_enter Try.func25, Try.ntmps25
  go_upto_region 1 with fail
  generalize (w.alloc (.cells #[.int .i64 t, .int .i64 m, .int .i64 r, .int .i64 s, .int .i64 k] 25)).alloc (.cells #[.int .i64 0, .int .i64 0, .int .i64 0, .int .i64 0, .int .i64 0, .int .i64 0, .int .i64 0, .slice none 0 0] 28) = w0 at S0 ⊢
  obtain ⟨d0, d1, d2, d3, d4⟩ := S0.out.cells
  go_wp2_with fail
  clear d0 d1 d2 d3 d4
  refine (isState_any _ _ _ _ _ _).mono ?_
  rintro e w1 ⟨rfl, b1⟩
  rw [HS.out]
  have S1 := Lib.hid (S0.out.call b1)
  clear b1 S0
  go_wp2_with fail
  refine (isId_any _ _).mono ?_
  rintro e w2 ⟨rfl, rfl⟩
  rw [HI.out]
  have rc0 := S1.out.res.c0
  have rf0 := S1.out.res.f 0
  have rc1 := S1.out.res.c1
  have rf1 := S1.out.res.f 1
  have rc2 := S1.out.res.c2
  have rf2 := S1.out.res.f 2
  have rc3 := S1.out.res.c3
  have rf3 := S1.out.res.f 3
  have rc4 := S1.out.res.c4
  have rf4 := S1.out.res.f 4
  have rc5 := S1.out.res.c5
  have rf5 := S1.out.res.f 5
  have rc6 := S1.out.res.c6
  have rf6 := S1.out.res.f 6
  have rc7 := S1.out.res.c7
  have rf7 := S1.out.res.f 7
  go_wp2_with fail
  refine (isBytes_any _ _ _ _ _ (HR.out.below S1.out.below) (by omega)).mono ?_
  rintro e w2 ⟨rfl, rfl⟩
  rw [HB.out]
  go_wp2_with fail
  clear rc0 rf0 rc1 rf1 rc2 rf2 rc3 rf3 rc4 rf4 rc5 rf5 rc6 rf6 rc7 rf7
  change bodyPost _ _ _ _ _ (setEight w1 (w.heap.size + 1) 0 0 0 0 0 0 0 (.slice none 0 0))
  obtain ⟨SF, BF⟩ := S1.out.fin 0 0 0 0 0 0 0 (.slice none 0 0)
  generalize setEight w1 (w.heap.size + 1) 0 0 0 0 0 0 0 (.slice none 0 0) = wz at SF BF ⊢
  have e0 := SF.c0
  have e1 := SF.c1
  have e2 := SF.c2
  have e3 := SF.c3
  have e4 := SF.c4
  have e5 := SF.c5
  have e6 := SF.c6
  have e7 := SF.c7
  exact bodyPost_ret (v := .tuple #[.agg #[.int .i64 0, .int .i64 0, .int .i64 0, .int .i64 0, .int .i64 0, .int .i64 0, .int .i64 0, .slice none 0 0], .int .i64 6]) (by simp [results, Try.results25, go_sem, e0, e1, e2, e3, e4, e5, e6, e7]) rfl ⟨_, _, rfl, Own.nil_, BF⟩
set_option linter.unusedSimpArgs false in
set_option linter.unusedVariables false in
set_option maxHeartbeats 1000000 in
set_option maxRecDepth 100000 in
theorem io_D (b off c : Nat) (id t m r s k h x : Int) (ys zs xs : List Int) (w : World) (hr : Rd w (some ⟨b, off, none⟩) (ys.length + 3) xs) (hn : ys.length + 3 ≤ 1024) (hnc : ys.length ≤ c) (hcap2 : c + 3 ≤ 9223372036854775807) (hs : isState t m r s k = true) (hi : inRange 0 16777215 id = true) (hb : isBytes xs = true) (hl : 1 ≤ ys.length) (hh : xs.getD 0 0 = h) (hkh : kindOfHead h = (h / 64, 0)) (hy : xs.take ys.length = ys) (hz : xs.drop ys.length = zs) (hyb : ∀ x ∈ ys, 0 ≤ x ∧ x ≤ 255) (hx : sealNum (h / 64) id t m r s k ys = x) (hx2 : 0 ≤ x ∧ x ≤ 16777215) (hd : decide (zs = three x) = false) : Calls Try.prog 25 #[.slice (some ⟨b, off, none⟩) (ys.length + 3) (c + 3), .int .i64 id, .agg #[.int .i64 t, .int .i64 m, .int .i64 r, .int .i64 s, .int .i64 k]] w (GivesFB w Fr.zero (.int .i64 7)) := by
  have S0 := Lib.hid (OpenSt.start (t := t) (m := m) (r := r) (s := s) (k := k) w)
  obtain ⟨b', off', e', hat⟩ := (hr.below S0.out.below).here (by omega)
  cases e'
  have hc0 := hat 0 (by omega)
  rw [hh, Nat.add_zero] at hc0
  clear hat hh
  have h1 := hr.first (a := ys.length) (by omega)
  rw [hy] at h1
  have h2 := hr.slice (a := ys.length) (k := 3) (by omega)
  rw [List.take_of_length_le (by rw [List.length_drop, hr.len]; omega), hz] at h2
  simp only [Option.map_some, Addr.add_lit] at h2
  have R1 := Lib.hid h1; have R2 := Lib.hid h2
  clear h1 h2
  have HR := Lib.hid hr; have HS := Lib.hid hs; have HI := Lib.hid hi; have HID := Lib.hid (inRange_iff.1 hi); have HB := Lib.hid hb; have HK := Lib.hid hkh; have HY := Lib.hid hyb; have HX := Lib.hid hx; have HX2 := Lib.hid hx2; have HD := Lib.hid hd
  have HT := Lib.hid (three_len x)
  clear hr hs hi hb hkh hy hz hyb hx hx2 hd
  have hlt : ¬ ((ys.length : Int) + 3 < 4) := by omega
  have h0c : (ys.length : Int) ≤ (c : Int) + 3 := by omega
  have h1c : (ys.length : Int) ≤ (ys.length : Int) + 3 := by omega
  have hcn : ¬ c + 3 = ys.length := by omega
  go_enter Try.func25, Try.ntmps25
  go_upto_region 1 with fail
  generalize (w.alloc (.cells #[.int .i64 t, .int .i64 m, .int .i64 r, .int .i64 s, .int .i64 k] 25)).alloc (.cells #[.int .i64 0, .int .i64 0, .int .i64 0, .int .i64 0, .int .i64 0, .int .i64 0, .int .i64 0, .slice none 0 0] 28) = w0 at S0 hc0 ⊢
  obtain ⟨d0, d1, d2, d3, d4⟩ := S0.out.cells
  go_wp2_with fail
  clear d0 d1 d2 d3 d4
  refine (isState_any _ _ _ _ _ _).mono ?_
  rintro e w1 ⟨rfl, b1⟩
  rw [HS.out]
  have S1 := Lib.hid (S0.out.call b1)
  have hc1 := (b1.cell (p := ⟨b, off, none⟩) (World.block_lt_of_cell? _ _ hc0)).trans hc0
  clear hc0 b1 S0
  go_wp2_with fail
  refine (isId_any _ _).mono ?_
  rintro e w2 ⟨rfl, rfl⟩
  rw [HI.out]
  go_wp2_with fail
  refine (isBytes_any _ _ _ _ _ (HR.out.below S1.out.below) (by omega)).mono ?_
  rintro e w2 ⟨rfl, rfl⟩
  rw [HB.out]
  go_wp2_with fail
  clear hc1
  refine (kindOfHead_any _ _).mono ?_
  rintro e w2 ⟨rfl, rfl⟩
  rw [HK.out]
  simp only
  go_upto_region 10 with fail
  have S2 := Lib.hid S1.out.drew
  clear S1
  refine wp_region_held_drew (S := fun w' => w'.cell? ⟨w.heap.size, 0, none⟩ = some (.int .i64 t) ∧ w'.cell? ⟨w.heap.size, 1, none⟩ = some (.int .i64 m) ∧ w'.cell? ⟨w.heap.size, 2, none⟩ = some (.int .i64 r) ∧ w'.cell? ⟨w.heap.size, 3, none⟩ = some (.int .i64 s) ∧ w'.cell? ⟨w.heap.size, 4, none⟩ = some (.int .i64 k)) (by kernel_rfl) (OpenSt.cells S2.out) (fun hHeld => ?_)
  refine wpAnyH_take (i := 0) (v := ?_) rfl (by kernel_rfl) (by kernel_rfl) (by kernel_rfl) (fun _ _ _ h => h) (Or.inl ⟨by rfl, ?_⟩) (by assumption) ?_
  rotate_left
  · (intro w hSw; (try dsimp only at hSw); go_simp; (try with_reducible rfl))
  try simp only [List.getElem_toArray, List.getElem_cons_succ, List.getElem_cons_zero, Act.put, List.setIfInBounds_toArray, List.set_cons_zero, List.set_cons_succ]
  refine wpAnyH_take (i := 1) (v := ?_) rfl (by kernel_rfl) (by kernel_rfl) (by kernel_rfl) (fun _ _ _ h => h) (Or.inl ⟨by rfl, ?_⟩) (by assumption) ?_
  rotate_left
  · (intro w hSw; (try dsimp only at hSw); go_simp; (try with_reducible rfl))
  try simp only [List.getElem_toArray, List.getElem_cons_succ, List.getElem_cons_zero, Act.put, List.setIfInBounds_toArray, List.set_cons_zero, List.set_cons_succ]
  refine wpAnyH_take (i := 2) (v := ?_) rfl (by kernel_rfl) (by kernel_rfl) (by kernel_rfl) (fun _ _ _ h => h) (Or.inl ⟨by rfl, ?_⟩) (by assumption) ?_
  rotate_left
  · (intro w hSw; (try dsimp only at hSw); go_simp; (try with_reducible rfl))
  try simp only [List.getElem_toArray, List.getElem_cons_succ, List.getElem_cons_zero, Act.put, List.setIfInBounds_toArray, List.set_cons_zero, List.set_cons_succ]
  refine wpAnyH_take (i := 3) (v := ?_) rfl (by kernel_rfl) (by kernel_rfl) (by kernel_rfl) (fun _ _ _ h => h) (Or.inl ⟨by rfl, ?_⟩) (by assumption) ?_
  rotate_left
  · (intro w hSw; (try dsimp only at hSw); go_simp; (try with_reducible rfl))
  try simp only [List.getElem_toArray, List.getElem_cons_succ, List.getElem_cons_zero, Act.put, List.setIfInBounds_toArray, List.set_cons_zero, List.set_cons_succ]
  refine wpAnyH_take (i := 4) (v := ?_) rfl (by kernel_rfl) (by kernel_rfl) (by kernel_rfl) (fun _ _ _ h => h) (Or.inl ⟨by rfl, ?_⟩) (by assumption) ?_
  rotate_left
  · (intro w hSw; (try dsimp only at hSw); go_simp; (try with_reducible rfl))
  try simp only [List.getElem_toArray, List.getElem_cons_succ, List.getElem_cons_zero, Act.put, List.setIfInBounds_toArray, List.set_cons_zero, List.set_cons_succ]
  refine wpAnyH_take (i := 6) (v := ?_) rfl (by kernel_rfl) (by kernel_rfl) (by kernel_rfl) (fun _ _ _ h => h) (Or.inl ⟨by rfl, ?_⟩) (by assumption) ?_
  rotate_left
  · (intro w hSw; (try dsimp only at hSw); go_simp; (try with_reducible rfl))
  try simp only [List.getElem_toArray, List.getElem_cons_succ, List.getElem_cons_zero, Act.put, List.setIfInBounds_toArray, List.set_cons_zero, List.set_cons_succ]
  refine wpAnyH_take (i := 7) (v := ?_) rfl (by kernel_rfl) (by kernel_rfl) (by kernel_rfl) (fun _ _ _ h => h) (Or.inl ⟨by rfl, ?_⟩) (by assumption) ?_
  rotate_left
  · (intro w hSw; (try dsimp only at hSw); go_simp; (try with_reducible rfl))
  try simp only [List.getElem_toArray, List.getElem_cons_succ, List.getElem_cons_zero, Act.put, List.setIfInBounds_toArray, List.set_cons_zero, List.set_cons_succ]
  refine wpAnyH_ready (rs := [5]) (by kernel_rfl) (by simp) (AllReadyH.cons rfl (fun K hK => ?_) AllReadyH.nil)
  go_simp
  refine (newSeal_any _ _ _ _ _ _ _).mono ?_
  rintro e w4 ⟨p4, rfl, hcy, b4⟩
  have S4 := Lib.hid (S2.out.call b4)
  have CY := Lib.hid hcy
  clear hcy b4
  go_wp2_with fail
  refine hK.out _ _ ?_ (fun hHeld => ?_)
  · exact OpenSt.cells S4.out
  clear hK K
  try simp only [List.getElem_toArray, List.getElem_cons_succ, List.getElem_cons_zero, Act.put, List.setIfInBounds_toArray, List.set_cons_zero, List.set_cons_succ]
  refine wpAnyH_ready (rs := [8]) (by kernel_rfl) (by simp) (AllReadyH.cons rfl (fun K hK => ?_) AllReadyH.nil)
  go_simp
  refine (check_any p4 id _ _ _ _ _ _ _ _ _ ys _ HID.out CY.out (R1.out.below S4.out.below) (by omega) HY.out).mono ?_
  rintro e w5 ⟨rfl, b5⟩
  rw [HX.out]
  have S5 := Lib.hid (S4.out.call b5)
  clear b5
  go_wp2_with fail
  refine hK.out _ _ ?_ (fun hHeld => ?_)
  · exact OpenSt.cells S5.out
  clear hK K
  try simp only [List.getElem_toArray, List.getElem_cons_succ, List.getElem_cons_zero, Act.put, List.setIfInBounds_toArray, List.set_cons_zero, List.set_cons_succ]
  refine wpAnyH_ready (rs := [9]) (by kernel_rfl) (by simp) (AllReadyH.cons rfl (fun K hK => ?_) AllReadyH.nil)
  go_simp
  refine (bytesOfCheck_any x _ HX2.out).mono ?_
  rintro e w6 m6
  obtain ⟨p6, c6, rfl, -, r6, b6⟩ := m6.get
  have S6 := Lib.hid (S5.out.call b6)
  have R6 := Lib.hid r6
  clear m6 r6 b6
  go_wp2_with fail
  refine hK.out _ _ ?_ (fun hHeld => ?_)
  · exact OpenSt.cells S6.out
  clear hK K
  try simp only [List.getElem_toArray, List.getElem_cons_succ, List.getElem_cons_zero, Act.put, List.setIfInBounds_toArray, List.set_cons_zero, List.set_cons_succ]
  refine wpAnyH_ready (rs := [10]) (by kernel_rfl) (by simp) (AllReadyH.cons rfl (fun K hK => ?_) AllReadyH.nil)
  go_simp
  refine (equal_any _ _ _ _ _ _ _ _ _ (R2.out.below S6.out.below) R6.out (by omega) (by have := HT.out; omega)).mono ?_
  rintro e w7 ⟨rfl, q7, rfl⟩
  rw [HD.out]
  have S7 := Lib.hid (S6.out.call (below_drewN' (Below.refl _ _) q7))
  clear R6
  go_wp2_with fail
  refine hK.out _ _ ?_ (fun hHeld => ?_)
  · exact OpenSt.cells S7.out
  clear hK K
  try simp only [List.getElem_toArray, List.getElem_cons_succ, List.getElem_cons_zero, Act.put, List.setIfInBounds_toArray, List.set_cons_zero, List.set_cons_succ]
  refine wpAnyH_take (i := 11) (v := ?_) rfl (by kernel_rfl) (by kernel_rfl) (by kernel_rfl) (fun _ _ _ h => h) (Or.inl ⟨by rfl, ?_⟩) (by assumption) ?_
  rotate_left
  · (intro w hSw; (try dsimp only at hSw); go_simp; (try with_reducible rfl))
  try simp only [List.getElem_toArray, List.getElem_cons_succ, List.getElem_cons_zero, Act.put, List.setIfInBounds_toArray, List.set_cons_zero, List.set_cons_succ]
  refine wpAnyH_done (by kernel_rfl) ?_ _
  clear S2 S4 S5 S6 CY
  have rc0 := S7.out.res.c0
  have rf0 := S7.out.res.f 0
  have rc1 := S7.out.res.c1
  have rf1 := S7.out.res.f 1
  have rc2 := S7.out.res.c2
  have rf2 := S7.out.res.f 2
  have rc3 := S7.out.res.c3
  have rf3 := S7.out.res.f 3
  have rc4 := S7.out.res.c4
  have rf4 := S7.out.res.f 4
  have rc5 := S7.out.res.c5
  have rf5 := S7.out.res.f 5
  have rc6 := S7.out.res.c6
  have rf6 := S7.out.res.f 6
  have rc7 := S7.out.res.c7
  have rf7 := S7.out.res.f 7
  go_wp2_with fail
  clear rc0 rf0 rc1 rf1 rc2 rf2 rc3 rf3 rc4 rf4 rc5 rf5 rc6 rf6 rc7 rf7
  change bodyPost _ _ _ _ _ (setEight (w6.drewN q7) (w.heap.size + 1) 0 0 0 0 0 0 0 (.slice none 0 0))
  obtain ⟨SF, BF⟩ := S7.out.fin 0 0 0 0 0 0 0 (.slice none 0 0)
  generalize setEight (w6.drewN q7) (w.heap.size + 1) 0 0 0 0 0 0 0 (.slice none 0 0) = wz at SF BF ⊢
  have e0 := SF.c0
  have e1 := SF.c1
  have e2 := SF.c2
  have e3 := SF.c3
  have e4 := SF.c4
  have e5 := SF.c5
  have e6 := SF.c6
  have e7 := SF.c7
  exact bodyPost_ret (v := .tuple #[.agg #[.int .i64 0, .int .i64 0, .int .i64 0, .int .i64 0, .int .i64 0, .int .i64 0, .int .i64 0, .slice none 0 0], .int .i64 7]) (by simp [results, Try.results25, go_sem, e0, e1, e2, e3, e4, e5, e6, e7]) rfl ⟨_, _, rfl, Own.nil_, BF⟩
set_option linter.unusedSimpArgs false in
set_option linter.unusedVariables false in
set_option maxHeartbeats 1000000 in
set_option maxRecDepth 100000 in
theorem io_E (b off c : Nat) (id t m r s k h x : Int) (ys zs xs : List Int) (w : World) (hr : Rd w (some ⟨b, off, none⟩) (ys.length + 3) xs) (hn : ys.length + 3 ≤ 1024) (hnc : ys.length ≤ c) (hcap2 : c + 3 ≤ 9223372036854775807) (hs : isState t m r s k = true) (hi : inRange 0 16777215 id = true) (hb : isBytes xs = true) (hl : 1 ≤ ys.length) (hh : xs.getD 0 0 = h) (hkh : kindOfHead h = (h / 64, 0)) (hy : xs.take ys.length = ys) (hz : xs.drop ys.length = zs) (hyb : ∀ x ∈ ys, 0 ≤ x ∧ x ≤ 255) (hx : sealNum (h / 64) id t m r s k ys = x) (hx2 : 0 ≤ x ∧ x ≤ 16777215) (a q u0 u1 u2 u3 u4 z : Int) (d : List Int) (hf : frameFrom ys = (⟨a, q, u0, u1, u2, u3, u4, d⟩, z)) (hd : decide (zs = three x) = true) (hz0 : z ≠ 0) : Calls Try.prog 25 #[.slice (some ⟨b, off, none⟩) (ys.length + 3) (c + 3), .int .i64 id, .agg #[.int .i64 t, .int .i64 m, .int .i64 r, .int .i64 s, .int .i64 k]] w (GivesFB w Fr.zero (.int .i64 6)) := by
  have hdl := frameFrom_len ys
  rw [hf] at hdl
  simp only at hdl
  have hff := fun (W : World) (cc : Nat) (hR : Rd W (some ⟨b, off, none⟩) ys.length ys) (h1 : ys.length ≤ cc) (h2 : cc ≤ 9223372036854775807) => frameFromBody_any (some ⟨b, off, none⟩) cc ys W hR (by omega) h1 h2
  rw [hf] at hff
  simp only at hff
  have HFF := Lib.hid hff; clear hff hf
  have t1 : (z != 0) = true := by simp [hz0]
  clear hz0
  have S0 := Lib.hid (OpenSt.start (t := t) (m := m) (r := r) (s := s) (k := k) w)
  obtain ⟨b', off', e', hat⟩ := (hr.below S0.out.below).here (by omega)
  cases e'
  have hc0 := hat 0 (by omega)
  rw [hh, Nat.add_zero] at hc0
  clear hat hh
  have h1 := hr.first (a := ys.length) (by omega)
  rw [hy] at h1
  have h2 := hr.slice (a := ys.length) (k := 3) (by omega)
  rw [List.take_of_length_le (by rw [List.length_drop, hr.len]; omega), hz] at h2
  simp only [Option.map_some, Addr.add_lit] at h2
  have R1 := Lib.hid h1; have R2 := Lib.hid h2
  clear h1 h2
  have HR := Lib.hid hr; have HS := Lib.hid hs; have HI := Lib.hid hi; have HID := Lib.hid (inRange_iff.1 hi); have HB := Lib.hid hb; have HK := Lib.hid hkh; have HY := Lib.hid hyb; have HX := Lib.hid hx; have HX2 := Lib.hid hx2; have HD := Lib.hid hd
  have HT := Lib.hid (three_len x)
  clear hr hs hi hb hkh hy hz hyb hx hx2 hd
  have hlt : ¬ ((ys.length : Int) + 3 < 4) := by omega
  have h0c : (ys.length : Int) ≤ (c : Int) + 3 := by omega
  have h1c : (ys.length : Int) ≤ (ys.length : Int) + 3 := by omega
  have hcn : ¬ c + 3 = ys.length := by omega
  go_enter Try.func25, Try.ntmps25
  go_upto_region 1 with fail
  generalize (w.alloc (.cells #[.int .i64 t, .int .i64 m, .int .i64 r, .int .i64 s, .int .i64 k] 25)).alloc (.cells #[.int .i64 0, .int .i64 0, .int .i64 0, .int .i64 0, .int .i64 0, .int .i64 0, .int .i64 0, .slice none 0 0] 28) = w0 at S0 hc0 ⊢
  obtain ⟨d0, d1, d2, d3, d4⟩ := S0.out.cells
  go_wp2_with fail
  clear d0 d1 d2 d3 d4
  refine (isState_any _ _ _ _ _ _).mono ?_
  rintro e w1 ⟨rfl, b1⟩
  rw [HS.out]
  have S1 := Lib.hid (S0.out.call b1)
  have hc1 := (b1.cell (p := ⟨b, off, none⟩) (World.block_lt_of_cell? _ _ hc0)).trans hc0
  clear hc0 b1 S0
  go_wp2_with fail
  refine (isId_any _ _).mono ?_
  rintro e w2 ⟨rfl, rfl⟩
  rw [HI.out]
  go_wp2_with fail
  refine (isBytes_any _ _ _ _ _ (HR.out.below S1.out.below) (by omega)).mono ?_
  rintro e w2 ⟨rfl, rfl⟩
  rw [HB.out]
  go_wp2_with fail
  clear hc1
  refine (kindOfHead_any _ _).mono ?_
  rintro e w2 ⟨rfl, rfl⟩
  rw [HK.out]
  simp only
  go_upto_region 10 with fail
  have S2 := Lib.hid S1.out.drew
  clear S1
  refine wp_region_held_drew (S := fun w' => w'.cell? ⟨w.heap.size, 0, none⟩ = some (.int .i64 t) ∧ w'.cell? ⟨w.heap.size, 1, none⟩ = some (.int .i64 m) ∧ w'.cell? ⟨w.heap.size, 2, none⟩ = some (.int .i64 r) ∧ w'.cell? ⟨w.heap.size, 3, none⟩ = some (.int .i64 s) ∧ w'.cell? ⟨w.heap.size, 4, none⟩ = some (.int .i64 k)) (by kernel_rfl) (OpenSt.cells S2.out) (fun hHeld => ?_)
  refine wpAnyH_take (i := 0) (v := ?_) rfl (by kernel_rfl) (by kernel_rfl) (by kernel_rfl) (fun _ _ _ h => h) (Or.inl ⟨by rfl, ?_⟩) (by assumption) ?_
  rotate_left
  · (intro w hSw; (try dsimp only at hSw); go_simp; (try with_reducible rfl))
  try simp only [List.getElem_toArray, List.getElem_cons_succ, List.getElem_cons_zero, Act.put, List.setIfInBounds_toArray, List.set_cons_zero, List.set_cons_succ]
  refine wpAnyH_take (i := 1) (v := ?_) rfl (by kernel_rfl) (by kernel_rfl) (by kernel_rfl) (fun _ _ _ h => h) (Or.inl ⟨by rfl, ?_⟩) (by assumption) ?_
  rotate_left
  · (intro w hSw; (try dsimp only at hSw); go_simp; (try with_reducible rfl))
  try simp only [List.getElem_toArray, List.getElem_cons_succ, List.getElem_cons_zero, Act.put, List.setIfInBounds_toArray, List.set_cons_zero, List.set_cons_succ]
  refine wpAnyH_take (i := 2) (v := ?_) rfl (by kernel_rfl) (by kernel_rfl) (by kernel_rfl) (fun _ _ _ h => h) (Or.inl ⟨by rfl, ?_⟩) (by assumption) ?_
  rotate_left
  · (intro w hSw; (try dsimp only at hSw); go_simp; (try with_reducible rfl))
  try simp only [List.getElem_toArray, List.getElem_cons_succ, List.getElem_cons_zero, Act.put, List.setIfInBounds_toArray, List.set_cons_zero, List.set_cons_succ]
  refine wpAnyH_take (i := 3) (v := ?_) rfl (by kernel_rfl) (by kernel_rfl) (by kernel_rfl) (fun _ _ _ h => h) (Or.inl ⟨by rfl, ?_⟩) (by assumption) ?_
  rotate_left
  · (intro w hSw; (try dsimp only at hSw); go_simp; (try with_reducible rfl))
  try simp only [List.getElem_toArray, List.getElem_cons_succ, List.getElem_cons_zero, Act.put, List.setIfInBounds_toArray, List.set_cons_zero, List.set_cons_succ]
  refine wpAnyH_take (i := 4) (v := ?_) rfl (by kernel_rfl) (by kernel_rfl) (by kernel_rfl) (fun _ _ _ h => h) (Or.inl ⟨by rfl, ?_⟩) (by assumption) ?_
  rotate_left
  · (intro w hSw; (try dsimp only at hSw); go_simp; (try with_reducible rfl))
  try simp only [List.getElem_toArray, List.getElem_cons_succ, List.getElem_cons_zero, Act.put, List.setIfInBounds_toArray, List.set_cons_zero, List.set_cons_succ]
  refine wpAnyH_take (i := 6) (v := ?_) rfl (by kernel_rfl) (by kernel_rfl) (by kernel_rfl) (fun _ _ _ h => h) (Or.inl ⟨by rfl, ?_⟩) (by assumption) ?_
  rotate_left
  · (intro w hSw; (try dsimp only at hSw); go_simp; (try with_reducible rfl))
  try simp only [List.getElem_toArray, List.getElem_cons_succ, List.getElem_cons_zero, Act.put, List.setIfInBounds_toArray, List.set_cons_zero, List.set_cons_succ]
  refine wpAnyH_take (i := 7) (v := ?_) rfl (by kernel_rfl) (by kernel_rfl) (by kernel_rfl) (fun _ _ _ h => h) (Or.inl ⟨by rfl, ?_⟩) (by assumption) ?_
  rotate_left
  · (intro w hSw; (try dsimp only at hSw); go_simp; (try with_reducible rfl))
  try simp only [List.getElem_toArray, List.getElem_cons_succ, List.getElem_cons_zero, Act.put, List.setIfInBounds_toArray, List.set_cons_zero, List.set_cons_succ]
  refine wpAnyH_ready (rs := [5]) (by kernel_rfl) (by simp) (AllReadyH.cons rfl (fun K hK => ?_) AllReadyH.nil)
  go_simp
  refine (newSeal_any _ _ _ _ _ _ _).mono ?_
  rintro e w4 ⟨p4, rfl, hcy, b4⟩
  have S4 := Lib.hid (S2.out.call b4)
  have CY := Lib.hid hcy
  clear hcy b4
  go_wp2_with fail
  refine hK.out _ _ ?_ (fun hHeld => ?_)
  · exact OpenSt.cells S4.out
  clear hK K
  try simp only [List.getElem_toArray, List.getElem_cons_succ, List.getElem_cons_zero, Act.put, List.setIfInBounds_toArray, List.set_cons_zero, List.set_cons_succ]
  refine wpAnyH_ready (rs := [8]) (by kernel_rfl) (by simp) (AllReadyH.cons rfl (fun K hK => ?_) AllReadyH.nil)
  go_simp
  refine (check_any p4 id _ _ _ _ _ _ _ _ _ ys _ HID.out CY.out (R1.out.below S4.out.below) (by omega) HY.out).mono ?_
  rintro e w5 ⟨rfl, b5⟩
  rw [HX.out]
  have S5 := Lib.hid (S4.out.call b5)
  clear b5
  go_wp2_with fail
  refine hK.out _ _ ?_ (fun hHeld => ?_)
  · exact OpenSt.cells S5.out
  clear hK K
  try simp only [List.getElem_toArray, List.getElem_cons_succ, List.getElem_cons_zero, Act.put, List.setIfInBounds_toArray, List.set_cons_zero, List.set_cons_succ]
  refine wpAnyH_ready (rs := [9]) (by kernel_rfl) (by simp) (AllReadyH.cons rfl (fun K hK => ?_) AllReadyH.nil)
  go_simp
  refine (bytesOfCheck_any x _ HX2.out).mono ?_
  rintro e w6 m6
  obtain ⟨p6, c6, rfl, -, r6, b6⟩ := m6.get
  have S6 := Lib.hid (S5.out.call b6)
  have R6 := Lib.hid r6
  clear m6 r6 b6
  go_wp2_with fail
  refine hK.out _ _ ?_ (fun hHeld => ?_)
  · exact OpenSt.cells S6.out
  clear hK K
  try simp only [List.getElem_toArray, List.getElem_cons_succ, List.getElem_cons_zero, Act.put, List.setIfInBounds_toArray, List.set_cons_zero, List.set_cons_succ]
  refine wpAnyH_ready (rs := [10]) (by kernel_rfl) (by simp) (AllReadyH.cons rfl (fun K hK => ?_) AllReadyH.nil)
  go_simp
  refine (equal_any _ _ _ _ _ _ _ _ _ (R2.out.below S6.out.below) R6.out (by omega) (by have := HT.out; omega)).mono ?_
  rintro e w7 ⟨rfl, q7, rfl⟩
  rw [HD.out]
  have S7 := Lib.hid (S6.out.call (below_drewN' (Below.refl _ _) q7))
  clear R6
  go_wp2_with fail
  refine hK.out _ _ ?_ (fun hHeld => ?_)
  · exact OpenSt.cells S7.out
  clear hK K
  try simp only [List.getElem_toArray, List.getElem_cons_succ, List.getElem_cons_zero, Act.put, List.setIfInBounds_toArray, List.set_cons_zero, List.set_cons_succ]
  refine wpAnyH_take (i := 11) (v := ?_) rfl (by kernel_rfl) (by kernel_rfl) (by kernel_rfl) (fun _ _ _ h => h) (Or.inl ⟨by rfl, ?_⟩) (by assumption) ?_
  rotate_left
  · (intro w hSw; (try dsimp only at hSw); go_simp; (try with_reducible rfl))
  try simp only [List.getElem_toArray, List.getElem_cons_succ, List.getElem_cons_zero, Act.put, List.setIfInBounds_toArray, List.set_cons_zero, List.set_cons_succ]
  refine wpAnyH_done (by kernel_rfl) ?_ _
  clear S2 S4 S5 S6 CY
  go_wp2_with fail
  refine (HFF.out _ _ (R1.out.below S7.out.below) (by omega) (by omega)).mono ?_
  rintro e w8 ⟨p8, c8, rfl, o8, b8⟩
  simp only at o8 ⊢
  have hsz := S7.out.size
  have S8 := Lib.hid (S7.out.call b8)
  have O8 := Lib.hid (o8.more (base' := w.heap.size + 2) hsz)
  have hd8 := Below.alloc (Below.refl w8.heap.size w8) (Nat.le_refl _) (.cells #[.int .i64 a, .int .i64 q, .int .i64 u0, .int .i64 u1, .int .i64 u2, .int .i64 u3, .int .i64 u4, .slice p8 d.length c8] 28)
  have X8 := Lib.hid (FrameAt.new (T := 28) (a := a) (q := q) (t := u0) (m := u1) (r := u2) (s := u3) (k := u4) (v := .slice p8 d.length c8) w8)
  have S9 := Lib.hid (S8.out.call hd8)
  have O9 := Lib.hid (O8.out.below hd8)
  clear o8 b8 hsz hd8 S7 S8 O8
  go_upto_region 14 with fail
  obtain ⟨J, hJ⟩ : ∃ J, J = w8.heap.size := ⟨_, rfl⟩
  rw [← hJ] at X8 ⊢
  clear hJ
  generalize w8.alloc (.cells #[.int .i64 a, .int .i64 q, .int .i64 u0, .int .i64 u1, .int .i64 u2, .int .i64 u3, .int .i64 u4, .slice p8 d.length c8] 28) = w9 at S9 O9 X8 ⊢
  have rc0 := S9.out.res.c0
  have rf0 := S9.out.res.f 0
  have rc1 := S9.out.res.c1
  have rf1 := S9.out.res.f 1
  have rc2 := S9.out.res.c2
  have rf2 := S9.out.res.f 2
  have rc3 := S9.out.res.c3
  have rf3 := S9.out.res.f 3
  have rc4 := S9.out.res.c4
  have rf4 := S9.out.res.f 4
  have rc5 := S9.out.res.c5
  have rf5 := S9.out.res.f 5
  have rc6 := S9.out.res.c6
  have rf6 := S9.out.res.f 6
  have rc7 := S9.out.res.c7
  have rf7 := S9.out.res.f 7
  go_wp2_with fail
  clear rc0 rf0 rc1 rf1 rc2 rf2 rc3 rf3 rc4 rf4 rc5 rf5 rc6 rf6 rc7 rf7
  change bodyPost _ _ _ _ _ (setEight w9 (w.heap.size + 1) 0 0 0 0 0 0 0 (.slice none 0 0))
  obtain ⟨SF, BF⟩ := S9.out.fin 0 0 0 0 0 0 0 (.slice none 0 0)
  generalize setEight w9 (w.heap.size + 1) 0 0 0 0 0 0 0 (.slice none 0 0) = wz at SF BF ⊢
  have e0 := SF.c0
  have e1 := SF.c1
  have e2 := SF.c2
  have e3 := SF.c3
  have e4 := SF.c4
  have e5 := SF.c5
  have e6 := SF.c6
  have e7 := SF.c7
  exact bodyPost_ret (v := .tuple #[.agg #[.int .i64 0, .int .i64 0, .int .i64 0, .int .i64 0, .int .i64 0, .int .i64 0, .int .i64 0, .slice none 0 0], .int .i64 6]) (by simp [results, Try.results25, go_sem, e0, e1, e2, e3, e4, e5, e6, e7]) rfl ⟨_, _, rfl, Own.nil_, BF⟩
set_option linter.unusedSimpArgs false in
set_option linter.unusedVariables false in
set_option maxHeartbeats 1000000 in
set_option maxRecDepth 100000 in
theorem io_F (b off c : Nat) (id t m r s k h x : Int) (ys zs xs : List Int) (w : World) (hr : Rd w (some ⟨b, off, none⟩) (ys.length + 3) xs) (hn : ys.length + 3 ≤ 1024) (hnc : ys.length ≤ c) (hcap2 : c + 3 ≤ 9223372036854775807) (hs : isState t m r s k = true) (hi : inRange 0 16777215 id = true) (hb : isBytes xs = true) (hl : 1 ≤ ys.length) (hh : xs.getD 0 0 = h) (hkh : kindOfHead h = (h / 64, 0)) (hy : xs.take ys.length = ys) (hz : xs.drop ys.length = zs) (hyb : ∀ x ∈ ys, 0 ≤ x ∧ x ≤ 255) (hx : sealNum (h / 64) id t m r s k ys = x) (hx2 : 0 ≤ x ∧ x ≤ 16777215) (a q u0 u1 u2 u3 u4 z : Int) (d : List Int) (hf : frameFrom ys = (⟨a, q, u0, u1, u2, u3, u4, d⟩, z)) (hd : decide (zs = three x) = true) (hz0 : z = 0) (hst : hasState (h / 64) = true) (hne : ¬ (u0 = t ∧ u1 = m ∧ u2 = r ∧ u3 = s ∧ u4 = k)) : Calls Try.prog 25 #[.slice (some ⟨b, off, none⟩) (ys.length + 3) (c + 3), .int .i64 id, .agg #[.int .i64 t, .int .i64 m, .int .i64 r, .int .i64 s, .int .i64 k]] w (GivesFB w Fr.zero (.int .i64 5)) := by
  have hdl := frameFrom_len ys
  rw [hf] at hdl
  simp only at hdl
  have hff := fun (W : World) (cc : Nat) (hR : Rd W (some ⟨b, off, none⟩) ys.length ys) (h1 : ys.length ≤ cc) (h2 : cc ≤ 9223372036854775807) => frameFromBody_any (some ⟨b, off, none⟩) cc ys W hR (by omega) h1 h2
  rw [hf] at hff
  simp only at hff
  have HFF := Lib.hid hff; clear hff hf
  subst hz0
  have HST := Lib.hid hst; clear hst
  have hneq := fun W => state_neq_other hne W
  clear hne
  have S0 := Lib.hid (OpenSt.start (t := t) (m := m) (r := r) (s := s) (k := k) w)
  obtain ⟨b', off', e', hat⟩ := (hr.below S0.out.below).here (by omega)
  cases e'
  have hc0 := hat 0 (by omega)
  rw [hh, Nat.add_zero] at hc0
  clear hat hh
  have h1 := hr.first (a := ys.length) (by omega)
  rw [hy] at h1
  have h2 := hr.slice (a := ys.length) (k := 3) (by omega)
  rw [List.take_of_length_le (by rw [List.length_drop, hr.len]; omega), hz] at h2
  simp only [Option.map_some, Addr.add_lit] at h2
  have R1 := Lib.hid h1; have R2 := Lib.hid h2
  clear h1 h2
  have HR := Lib.hid hr; have HS := Lib.hid hs; have HI := Lib.hid hi; have HID := Lib.hid (inRange_iff.1 hi); have HB := Lib.hid hb; have HK := Lib.hid hkh; have HY := Lib.hid hyb; have HX := Lib.hid hx; have HX2 := Lib.hid hx2; have HD := Lib.hid hd
  have HT := Lib.hid (three_len x)
  clear hr hs hi hb hkh hy hz hyb hx hx2 hd
  have hlt : ¬ ((ys.length : Int) + 3 < 4) := by omega
  have h0c : (ys.length : Int) ≤ (c : Int) + 3 := by omega
  have h1c : (ys.length : Int) ≤ (ys.length : Int) + 3 := by omega
  have hcn : ¬ c + 3 = ys.length := by omega
  go_enter Try.func25, Try.ntmps25
  go_upto_region 1 with fail
  generalize (w.alloc (.cells #[.int .i64 t, .int .i64 m, .int .i64 r, .int .i64 s, .int .i64 k] 25)).alloc (.cells #[.int .i64 0, .int .i64 0, .int .i64 0, .int .i64 0, .int .i64 0, .int .i64 0, .int .i64 0, .slice none 0 0] 28) = w0 at S0 hc0 ⊢
  obtain ⟨d0, d1, d2, d3, d4⟩ := S0.out.cells
  go_wp2_with fail
  clear d0 d1 d2 d3 d4
  refine (isState_any _ _ _ _ _ _).mono ?_
  rintro e w1 ⟨rfl, b1⟩
  rw [HS.out]
  have S1 := Lib.hid (S0.out.call b1)
  have hc1 := (b1.cell (p := ⟨b, off, none⟩) (World.block_lt_of_cell? _ _ hc0)).trans hc0
  clear hc0 b1 S0
  go_wp2_with fail
  refine (isId_any _ _).mono ?_
  rintro e w2 ⟨rfl, rfl⟩
  rw [HI.out]
  go_wp2_with fail
  refine (isBytes_any _ _ _ _ _ (HR.out.below S1.out.below) (by omega)).mono ?_
  rintro e w2 ⟨rfl, rfl⟩
  rw [HB.out]
  go_wp2_with fail
  clear hc1
  refine (kindOfHead_any _ _).mono ?_
  rintro e w2 ⟨rfl, rfl⟩
  rw [HK.out]
  simp only
  go_upto_region 10 with fail
  have S2 := Lib.hid S1.out.drew
  clear S1
  refine wp_region_held_drew (S := fun w' => w'.cell? ⟨w.heap.size, 0, none⟩ = some (.int .i64 t) ∧ w'.cell? ⟨w.heap.size, 1, none⟩ = some (.int .i64 m) ∧ w'.cell? ⟨w.heap.size, 2, none⟩ = some (.int .i64 r) ∧ w'.cell? ⟨w.heap.size, 3, none⟩ = some (.int .i64 s) ∧ w'.cell? ⟨w.heap.size, 4, none⟩ = some (.int .i64 k)) (by kernel_rfl) (OpenSt.cells S2.out) (fun hHeld => ?_)
  refine wpAnyH_take (i := 0) (v := ?_) rfl (by kernel_rfl) (by kernel_rfl) (by kernel_rfl) (fun _ _ _ h => h) (Or.inl ⟨by rfl, ?_⟩) (by assumption) ?_
  rotate_left
  · (intro w hSw; (try dsimp only at hSw); go_simp; (try with_reducible rfl))
  try simp only [List.getElem_toArray, List.getElem_cons_succ, List.getElem_cons_zero, Act.put, List.setIfInBounds_toArray, List.set_cons_zero, List.set_cons_succ]
  refine wpAnyH_take (i := 1) (v := ?_) rfl (by kernel_rfl) (by kernel_rfl) (by kernel_rfl) (fun _ _ _ h => h) (Or.inl ⟨by rfl, ?_⟩) (by assumption) ?_
  rotate_left
  · (intro w hSw; (try dsimp only at hSw); go_simp; (try with_reducible rfl))
  try simp only [List.getElem_toArray, List.getElem_cons_succ, List.getElem_cons_zero, Act.put, List.setIfInBounds_toArray, List.set_cons_zero, List.set_cons_succ]
  refine wpAnyH_take (i := 2) (v := ?_) rfl (by kernel_rfl) (by kernel_rfl) (by kernel_rfl) (fun _ _ _ h => h) (Or.inl ⟨by rfl, ?_⟩) (by assumption) ?_
  rotate_left
  · (intro w hSw; (try dsimp only at hSw); go_simp; (try with_reducible rfl))
  try simp only [List.getElem_toArray, List.getElem_cons_succ, List.getElem_cons_zero, Act.put, List.setIfInBounds_toArray, List.set_cons_zero, List.set_cons_succ]
  refine wpAnyH_take (i := 3) (v := ?_) rfl (by kernel_rfl) (by kernel_rfl) (by kernel_rfl) (fun _ _ _ h => h) (Or.inl ⟨by rfl, ?_⟩) (by assumption) ?_
  rotate_left
  · (intro w hSw; (try dsimp only at hSw); go_simp; (try with_reducible rfl))
  try simp only [List.getElem_toArray, List.getElem_cons_succ, List.getElem_cons_zero, Act.put, List.setIfInBounds_toArray, List.set_cons_zero, List.set_cons_succ]
  refine wpAnyH_take (i := 4) (v := ?_) rfl (by kernel_rfl) (by kernel_rfl) (by kernel_rfl) (fun _ _ _ h => h) (Or.inl ⟨by rfl, ?_⟩) (by assumption) ?_
  rotate_left
  · (intro w hSw; (try dsimp only at hSw); go_simp; (try with_reducible rfl))
  try simp only [List.getElem_toArray, List.getElem_cons_succ, List.getElem_cons_zero, Act.put, List.setIfInBounds_toArray, List.set_cons_zero, List.set_cons_succ]
  refine wpAnyH_take (i := 6) (v := ?_) rfl (by kernel_rfl) (by kernel_rfl) (by kernel_rfl) (fun _ _ _ h => h) (Or.inl ⟨by rfl, ?_⟩) (by assumption) ?_
  rotate_left
  · (intro w hSw; (try dsimp only at hSw); go_simp; (try with_reducible rfl))
  try simp only [List.getElem_toArray, List.getElem_cons_succ, List.getElem_cons_zero, Act.put, List.setIfInBounds_toArray, List.set_cons_zero, List.set_cons_succ]
  refine wpAnyH_take (i := 7) (v := ?_) rfl (by kernel_rfl) (by kernel_rfl) (by kernel_rfl) (fun _ _ _ h => h) (Or.inl ⟨by rfl, ?_⟩) (by assumption) ?_
  rotate_left
  · (intro w hSw; (try dsimp only at hSw); go_simp; (try with_reducible rfl))
  try simp only [List.getElem_toArray, List.getElem_cons_succ, List.getElem_cons_zero, Act.put, List.setIfInBounds_toArray, List.set_cons_zero, List.set_cons_succ]
  refine wpAnyH_ready (rs := [5]) (by kernel_rfl) (by simp) (AllReadyH.cons rfl (fun K hK => ?_) AllReadyH.nil)
  go_simp
  refine (newSeal_any _ _ _ _ _ _ _).mono ?_
  rintro e w4 ⟨p4, rfl, hcy, b4⟩
  have S4 := Lib.hid (S2.out.call b4)
  have CY := Lib.hid hcy
  clear hcy b4
  go_wp2_with fail
  refine hK.out _ _ ?_ (fun hHeld => ?_)
  · exact OpenSt.cells S4.out
  clear hK K
  try simp only [List.getElem_toArray, List.getElem_cons_succ, List.getElem_cons_zero, Act.put, List.setIfInBounds_toArray, List.set_cons_zero, List.set_cons_succ]
  refine wpAnyH_ready (rs := [8]) (by kernel_rfl) (by simp) (AllReadyH.cons rfl (fun K hK => ?_) AllReadyH.nil)
  go_simp
  refine (check_any p4 id _ _ _ _ _ _ _ _ _ ys _ HID.out CY.out (R1.out.below S4.out.below) (by omega) HY.out).mono ?_
  rintro e w5 ⟨rfl, b5⟩
  rw [HX.out]
  have S5 := Lib.hid (S4.out.call b5)
  clear b5
  go_wp2_with fail
  refine hK.out _ _ ?_ (fun hHeld => ?_)
  · exact OpenSt.cells S5.out
  clear hK K
  try simp only [List.getElem_toArray, List.getElem_cons_succ, List.getElem_cons_zero, Act.put, List.setIfInBounds_toArray, List.set_cons_zero, List.set_cons_succ]
  refine wpAnyH_ready (rs := [9]) (by kernel_rfl) (by simp) (AllReadyH.cons rfl (fun K hK => ?_) AllReadyH.nil)
  go_simp
  refine (bytesOfCheck_any x _ HX2.out).mono ?_
  rintro e w6 m6
  obtain ⟨p6, c6, rfl, -, r6, b6⟩ := m6.get
  have S6 := Lib.hid (S5.out.call b6)
  have R6 := Lib.hid r6
  clear m6 r6 b6
  go_wp2_with fail
  refine hK.out _ _ ?_ (fun hHeld => ?_)
  · exact OpenSt.cells S6.out
  clear hK K
  try simp only [List.getElem_toArray, List.getElem_cons_succ, List.getElem_cons_zero, Act.put, List.setIfInBounds_toArray, List.set_cons_zero, List.set_cons_succ]
  refine wpAnyH_ready (rs := [10]) (by kernel_rfl) (by simp) (AllReadyH.cons rfl (fun K hK => ?_) AllReadyH.nil)
  go_simp
  refine (equal_any _ _ _ _ _ _ _ _ _ (R2.out.below S6.out.below) R6.out (by omega) (by have := HT.out; omega)).mono ?_
  rintro e w7 ⟨rfl, q7, rfl⟩
  rw [HD.out]
  have S7 := Lib.hid (S6.out.call (below_drewN' (Below.refl _ _) q7))
  clear R6
  go_wp2_with fail
  refine hK.out _ _ ?_ (fun hHeld => ?_)
  · exact OpenSt.cells S7.out
  clear hK K
  try simp only [List.getElem_toArray, List.getElem_cons_succ, List.getElem_cons_zero, Act.put, List.setIfInBounds_toArray, List.set_cons_zero, List.set_cons_succ]
  refine wpAnyH_take (i := 11) (v := ?_) rfl (by kernel_rfl) (by kernel_rfl) (by kernel_rfl) (fun _ _ _ h => h) (Or.inl ⟨by rfl, ?_⟩) (by assumption) ?_
  rotate_left
  · (intro w hSw; (try dsimp only at hSw); go_simp; (try with_reducible rfl))
  try simp only [List.getElem_toArray, List.getElem_cons_succ, List.getElem_cons_zero, Act.put, List.setIfInBounds_toArray, List.set_cons_zero, List.set_cons_succ]
  refine wpAnyH_done (by kernel_rfl) ?_ _
  clear S2 S4 S5 S6 CY
  go_wp2_with fail
  refine (HFF.out _ _ (R1.out.below S7.out.below) (by omega) (by omega)).mono ?_
  rintro e w8 ⟨p8, c8, rfl, o8, b8⟩
  simp only at o8 ⊢
  have hsz := S7.out.size
  have S8 := Lib.hid (S7.out.call b8)
  have O8 := Lib.hid (o8.more (base' := w.heap.size + 2) hsz)
  have hd8 := Below.alloc (Below.refl w8.heap.size w8) (Nat.le_refl _) (.cells #[.int .i64 a, .int .i64 q, .int .i64 u0, .int .i64 u1, .int .i64 u2, .int .i64 u3, .int .i64 u4, .slice p8 d.length c8] 28)
  have X8 := Lib.hid (FrameAt.new (T := 28) (a := a) (q := q) (t := u0) (m := u1) (r := u2) (s := u3) (k := u4) (v := .slice p8 d.length c8) w8)
  have S9 := Lib.hid (S8.out.call hd8)
  have O9 := Lib.hid (O8.out.below hd8)
  clear o8 b8 hsz hd8 S7 S8 O8
  go_wp2_with fail
  obtain ⟨J, hJ⟩ : ∃ J, J = w8.heap.size := ⟨_, rfl⟩
  rw [← hJ] at X8 ⊢
  clear hJ
  generalize w8.alloc (.cells #[.int .i64 a, .int .i64 q, .int .i64 u0, .int .i64 u1, .int .i64 u2, .int .i64 u3, .int .i64 u4, .slice p8 d.length c8] 28) = w9 at S9 O9 X8 ⊢
  refine (hasStateAndData_any _ _).mono ?_
  rintro e w10 ⟨rfl, rfl⟩
  rw [HST.out]
  have rc0 := S9.out.res.c0
  have rf0 := S9.out.res.f 0
  have rc1 := S9.out.res.c1
  have rf1 := S9.out.res.f 1
  have rc2 := S9.out.res.c2
  have rf2 := S9.out.res.f 2
  have rc3 := S9.out.res.c3
  have rf3 := S9.out.res.f 3
  have rc4 := S9.out.res.c4
  have rf4 := S9.out.res.f 4
  have rc5 := S9.out.res.c5
  have rf5 := S9.out.res.f 5
  have rc6 := S9.out.res.c6
  have rf6 := S9.out.res.f 6
  have rc7 := S9.out.res.c7
  have rf7 := S9.out.res.f 7
  obtain ⟨x0, x1, x2, x3, x4, x5, x6, x7⟩ := frame_cells X8.out
  obtain ⟨d0, d1, d2, d3, d4⟩ := S9.out.cells
  go_wp2_with fail
  clear x0 x1 x2 x3 x4 x5 x6 x7 d0 d1 d2 d3 d4 rc0 rf0 rc1 rf1 rc2 rf2 rc3 rf3 rc4 rf4 rc5 rf5 rc6 rf6 rc7 rf7
  change bodyPost _ _ _ _ _ (setEight w9 (w.heap.size + 1) 0 0 0 0 0 0 0 (.slice none 0 0))
  obtain ⟨SF, BF⟩ := S9.out.fin 0 0 0 0 0 0 0 (.slice none 0 0)
  generalize setEight w9 (w.heap.size + 1) 0 0 0 0 0 0 0 (.slice none 0 0) = wz at SF BF ⊢
  have e0 := SF.c0
  have e1 := SF.c1
  have e2 := SF.c2
  have e3 := SF.c3
  have e4 := SF.c4
  have e5 := SF.c5
  have e6 := SF.c6
  have e7 := SF.c7
  exact bodyPost_ret (v := .tuple #[.agg #[.int .i64 0, .int .i64 0, .int .i64 0, .int .i64 0, .int .i64 0, .int .i64 0, .int .i64 0, .slice none 0 0], .int .i64 5]) (by simp [results, Try.results25, go_sem, e0, e1, e2, e3, e4, e5, e6, e7]) rfl ⟨_, _, rfl, Own.nil_, BF⟩
set_option linter.unusedSimpArgs false in
set_option linter.unusedVariables false in
set_option maxHeartbeats 1000000 in
set_option maxRecDepth 100000 in
theorem io_G1 (b off c : Nat) (id t m r s k h x : Int) (ys zs xs : List Int) (w : World) (hr : Rd w (some ⟨b, off, none⟩) (ys.length + 3) xs) (hn : ys.length + 3 ≤ 1024) (hnc : ys.length ≤ c) (hcap2 : c + 3 ≤ 9223372036854775807) (hs : isState t m r s k = true) (hi : inRange 0 16777215 id = true) (hb : isBytes xs = true) (hl : 1 ≤ ys.length) (hh : xs.getD 0 0 = h) (hkh : kindOfHead h = (h / 64, 0)) (hy : xs.take ys.length = ys) (hz : xs.drop ys.length = zs) (hyb : ∀ x ∈ ys, 0 ≤ x ∧ x ≤ 255) (hx : sealNum (h / 64) id t m r s k ys = x) (hx2 : 0 ≤ x ∧ x ≤ 16777215) (a q u0 u1 u2 u3 u4 z : Int) (d : List Int) (hf : frameFrom ys = (⟨a, q, u0, u1, u2, u3, u4, d⟩, z)) (hd : decide (zs = three x) = true) (hz0 : z = 0) (hst : hasState (h / 64) = false) : Calls Try.prog 25 #[.slice (some ⟨b, off, none⟩) (ys.length + 3) (c + 3), .int .i64 id, .agg #[.int .i64 t, .int .i64 m, .int .i64 r, .int .i64 s, .int .i64 k]] w (GivesFB w ⟨a, q, u0, u1, u2, u3, u4, d⟩ (.int .i64 0)) := by
  have hdl := frameFrom_len ys
  rw [hf] at hdl
  simp only at hdl
  have hff := fun (W : World) (cc : Nat) (hR : Rd W (some ⟨b, off, none⟩) ys.length ys) (h1 : ys.length ≤ cc) (h2 : cc ≤ 9223372036854775807) => frameFromBody_any (some ⟨b, off, none⟩) cc ys W hR (by omega) h1 h2
  rw [hf] at hff
  simp only at hff
  have HFF := Lib.hid hff; clear hff hf
  subst hz0
  have HST := Lib.hid hst; clear hst
  have S0 := Lib.hid (OpenSt.start (t := t) (m := m) (r := r) (s := s) (k := k) w)
  obtain ⟨b', off', e', hat⟩ := (hr.below S0.out.below).here (by omega)
  cases e'
  have hc0 := hat 0 (by omega)
  rw [hh, Nat.add_zero] at hc0
  clear hat hh
  have h1 := hr.first (a := ys.length) (by omega)
  rw [hy] at h1
  have h2 := hr.slice (a := ys.length) (k := 3) (by omega)
  rw [List.take_of_length_le (by rw [List.length_drop, hr.len]; omega), hz] at h2
  simp only [Option.map_some, Addr.add_lit] at h2
  have R1 := Lib.hid h1; have R2 := Lib.hid h2
  clear h1 h2
  have HR := Lib.hid hr; have HS := Lib.hid hs; have HI := Lib.hid hi; have HID := Lib.hid (inRange_iff.1 hi); have HB := Lib.hid hb; have HK := Lib.hid hkh; have HY := Lib.hid hyb; have HX := Lib.hid hx; have HX2 := Lib.hid hx2; have HD := Lib.hid hd
  have HT := Lib.hid (three_len x)
  clear hr hs hi hb hkh hy hz hyb hx hx2 hd
  have hlt : ¬ ((ys.length : Int) + 3 < 4) := by omega
  have h0c : (ys.length : Int) ≤ (c : Int) + 3 := by omega
  have h1c : (ys.length : Int) ≤ (ys.length : Int) + 3 := by omega
  have hcn : ¬ c + 3 = ys.length := by omega
  go_enter Try.func25, Try.ntmps25
  go_upto_region 1 with fail
  generalize (w.alloc (.cells #[.int .i64 t, .int .i64 m, .int .i64 r, .int .i64 s, .int .i64 k] 25)).alloc (.cells #[.int .i64 0, .int .i64 0, .int .i64 0, .int .i64 0, .int .i64 0, .int .i64 0, .int .i64 0, .slice none 0 0] 28) = w0 at S0 hc0 ⊢
  obtain ⟨d0, d1, d2, d3, d4⟩ := S0.out.cells
  go_wp2_with fail
  clear d0 d1 d2 d3 d4
  refine (isState_any _ _ _ _ _ _).mono ?_
  rintro e w1 ⟨rfl, b1⟩
  rw [HS.out]
  have S1 := Lib.hid (S0.out.call b1)
  have hc1 := (b1.cell (p := ⟨b, off, none⟩) (World.block_lt_of_cell? _ _ hc0)).trans hc0
  clear hc0 b1 S0
  go_wp2_with fail
  refine (isId_any _ _).mono ?_
  rintro e w2 ⟨rfl, rfl⟩
  rw [HI.out]
  go_wp2_with fail
  refine (isBytes_any _ _ _ _ _ (HR.out.below S1.out.below) (by omega)).mono ?_
  rintro e w2 ⟨rfl, rfl⟩
  rw [HB.out]
  go_wp2_with fail
  clear hc1
  refine (kindOfHead_any _ _).mono ?_
  rintro e w2 ⟨rfl, rfl⟩
  rw [HK.out]
  simp only
  go_upto_region 10 with fail
  have S2 := Lib.hid S1.out.drew
  clear S1
  refine wp_region_held_drew (S := fun w' => w'.cell? ⟨w.heap.size, 0, none⟩ = some (.int .i64 t) ∧ w'.cell? ⟨w.heap.size, 1, none⟩ = some (.int .i64 m) ∧ w'.cell? ⟨w.heap.size, 2, none⟩ = some (.int .i64 r) ∧ w'.cell? ⟨w.heap.size, 3, none⟩ = some (.int .i64 s) ∧ w'.cell? ⟨w.heap.size, 4, none⟩ = some (.int .i64 k)) (by kernel_rfl) (OpenSt.cells S2.out) (fun hHeld => ?_)
  refine wpAnyH_take (i := 0) (v := ?_) rfl (by kernel_rfl) (by kernel_rfl) (by kernel_rfl) (fun _ _ _ h => h) (Or.inl ⟨by rfl, ?_⟩) (by assumption) ?_
  rotate_left
  · (intro w hSw; (try dsimp only at hSw); go_simp; (try with_reducible rfl))
  try simp only [List.getElem_toArray, List.getElem_cons_succ, List.getElem_cons_zero, Act.put, List.setIfInBounds_toArray, List.set_cons_zero, List.set_cons_succ]
  refine wpAnyH_take (i := 1) (v := ?_) rfl (by kernel_rfl) (by kernel_rfl) (by kernel_rfl) (fun _ _ _ h => h) (Or.inl ⟨by rfl, ?_⟩) (by assumption) ?_
  rotate_left
  · (intro w hSw; (try dsimp only at hSw); go_simp; (try with_reducible rfl))
  try simp only [List.getElem_toArray, List.getElem_cons_succ, List.getElem_cons_zero, Act.put, List.setIfInBounds_toArray, List.set_cons_zero, List.set_cons_succ]
  refine wpAnyH_take (i := 2) (v := ?_) rfl (by kernel_rfl) (by kernel_rfl) (by kernel_rfl) (fun _ _ _ h => h) (Or.inl ⟨by rfl, ?_⟩) (by assumption) ?_
  rotate_left
  · (intro w hSw; (try dsimp only at hSw); go_simp; (try with_reducible rfl))
  try simp only [List.getElem_toArray, List.getElem_cons_succ, List.getElem_cons_zero, Act.put, List.setIfInBounds_toArray, List.set_cons_zero, List.set_cons_succ]
  refine wpAnyH_take (i := 3) (v := ?_) rfl (by kernel_rfl) (by kernel_rfl) (by kernel_rfl) (fun _ _ _ h => h) (Or.inl ⟨by rfl, ?_⟩) (by assumption) ?_
  rotate_left
  · (intro w hSw; (try dsimp only at hSw); go_simp; (try with_reducible rfl))
  try simp only [List.getElem_toArray, List.getElem_cons_succ, List.getElem_cons_zero, Act.put, List.setIfInBounds_toArray, List.set_cons_zero, List.set_cons_succ]
  refine wpAnyH_take (i := 4) (v := ?_) rfl (by kernel_rfl) (by kernel_rfl) (by kernel_rfl) (fun _ _ _ h => h) (Or.inl ⟨by rfl, ?_⟩) (by assumption) ?_
  rotate_left
  · (intro w hSw; (try dsimp only at hSw); go_simp; (try with_reducible rfl))
  try simp only [List.getElem_toArray, List.getElem_cons_succ, List.getElem_cons_zero, Act.put, List.setIfInBounds_toArray, List.set_cons_zero, List.set_cons_succ]
  refine wpAnyH_take (i := 6) (v := ?_) rfl (by kernel_rfl) (by kernel_rfl) (by kernel_rfl) (fun _ _ _ h => h) (Or.inl ⟨by rfl, ?_⟩) (by assumption) ?_
  rotate_left
  · (intro w hSw; (try dsimp only at hSw); go_simp; (try with_reducible rfl))
  try simp only [List.getElem_toArray, List.getElem_cons_succ, List.getElem_cons_zero, Act.put, List.setIfInBounds_toArray, List.set_cons_zero, List.set_cons_succ]
  refine wpAnyH_take (i := 7) (v := ?_) rfl (by kernel_rfl) (by kernel_rfl) (by kernel_rfl) (fun _ _ _ h => h) (Or.inl ⟨by rfl, ?_⟩) (by assumption) ?_
  rotate_left
  · (intro w hSw; (try dsimp only at hSw); go_simp; (try with_reducible rfl))
  try simp only [List.getElem_toArray, List.getElem_cons_succ, List.getElem_cons_zero, Act.put, List.setIfInBounds_toArray, List.set_cons_zero, List.set_cons_succ]
  refine wpAnyH_ready (rs := [5]) (by kernel_rfl) (by simp) (AllReadyH.cons rfl (fun K hK => ?_) AllReadyH.nil)
  go_simp
  refine (newSeal_any _ _ _ _ _ _ _).mono ?_
  rintro e w4 ⟨p4, rfl, hcy, b4⟩
  have S4 := Lib.hid (S2.out.call b4)
  have CY := Lib.hid hcy
  clear hcy b4
  go_wp2_with fail
  refine hK.out _ _ ?_ (fun hHeld => ?_)
  · exact OpenSt.cells S4.out
  clear hK K
  try simp only [List.getElem_toArray, List.getElem_cons_succ, List.getElem_cons_zero, Act.put, List.setIfInBounds_toArray, List.set_cons_zero, List.set_cons_succ]
  refine wpAnyH_ready (rs := [8]) (by kernel_rfl) (by simp) (AllReadyH.cons rfl (fun K hK => ?_) AllReadyH.nil)
  go_simp
  refine (check_any p4 id _ _ _ _ _ _ _ _ _ ys _ HID.out CY.out (R1.out.below S4.out.below) (by omega) HY.out).mono ?_
  rintro e w5 ⟨rfl, b5⟩
  rw [HX.out]
  have S5 := Lib.hid (S4.out.call b5)
  clear b5
  go_wp2_with fail
  refine hK.out _ _ ?_ (fun hHeld => ?_)
  · exact OpenSt.cells S5.out
  clear hK K
  try simp only [List.getElem_toArray, List.getElem_cons_succ, List.getElem_cons_zero, Act.put, List.setIfInBounds_toArray, List.set_cons_zero, List.set_cons_succ]
  refine wpAnyH_ready (rs := [9]) (by kernel_rfl) (by simp) (AllReadyH.cons rfl (fun K hK => ?_) AllReadyH.nil)
  go_simp
  refine (bytesOfCheck_any x _ HX2.out).mono ?_
  rintro e w6 m6
  obtain ⟨p6, c6, rfl, -, r6, b6⟩ := m6.get
  have S6 := Lib.hid (S5.out.call b6)
  have R6 := Lib.hid r6
  clear m6 r6 b6
  go_wp2_with fail
  refine hK.out _ _ ?_ (fun hHeld => ?_)
  · exact OpenSt.cells S6.out
  clear hK K
  try simp only [List.getElem_toArray, List.getElem_cons_succ, List.getElem_cons_zero, Act.put, List.setIfInBounds_toArray, List.set_cons_zero, List.set_cons_succ]
  refine wpAnyH_ready (rs := [10]) (by kernel_rfl) (by simp) (AllReadyH.cons rfl (fun K hK => ?_) AllReadyH.nil)
  go_simp
  refine (equal_any _ _ _ _ _ _ _ _ _ (R2.out.below S6.out.below) R6.out (by omega) (by have := HT.out; omega)).mono ?_
  rintro e w7 ⟨rfl, q7, rfl⟩
  rw [HD.out]
  have S7 := Lib.hid (S6.out.call (below_drewN' (Below.refl _ _) q7))
  clear R6
  go_wp2_with fail
  refine hK.out _ _ ?_ (fun hHeld => ?_)
  · exact OpenSt.cells S7.out
  clear hK K
  try simp only [List.getElem_toArray, List.getElem_cons_succ, List.getElem_cons_zero, Act.put, List.setIfInBounds_toArray, List.set_cons_zero, List.set_cons_succ]
  refine wpAnyH_take (i := 11) (v := ?_) rfl (by kernel_rfl) (by kernel_rfl) (by kernel_rfl) (fun _ _ _ h => h) (Or.inl ⟨by rfl, ?_⟩) (by assumption) ?_
  rotate_left
  · (intro w hSw; (try dsimp only at hSw); go_simp; (try with_reducible rfl))
  try simp only [List.getElem_toArray, List.getElem_cons_succ, List.getElem_cons_zero, Act.put, List.setIfInBounds_toArray, List.set_cons_zero, List.set_cons_succ]
  refine wpAnyH_done (by kernel_rfl) ?_ _
  clear S2 S4 S5 S6 CY
  go_wp2_with fail
  refine (HFF.out _ _ (R1.out.below S7.out.below) (by omega) (by omega)).mono ?_
  rintro e w8 ⟨p8, c8, rfl, o8, b8⟩
  simp only at o8 ⊢
  have hsz := S7.out.size
  have S8 := Lib.hid (S7.out.call b8)
  have O8 := Lib.hid (o8.more (base' := w.heap.size + 2) hsz)
  have hd8 := Below.alloc (Below.refl w8.heap.size w8) (Nat.le_refl _) (.cells #[.int .i64 a, .int .i64 q, .int .i64 u0, .int .i64 u1, .int .i64 u2, .int .i64 u3, .int .i64 u4, .slice p8 d.length c8] 28)
  have X8 := Lib.hid (FrameAt.new (T := 28) (a := a) (q := q) (t := u0) (m := u1) (r := u2) (s := u3) (k := u4) (v := .slice p8 d.length c8) w8)
  have S9 := Lib.hid (S8.out.call hd8)
  have O9 := Lib.hid (O8.out.below hd8)
  clear o8 b8 hsz hd8 S7 S8 O8
  go_wp2_with fail
  obtain ⟨J, hJ⟩ : ∃ J, J = w8.heap.size := ⟨_, rfl⟩
  rw [← hJ] at X8 ⊢
  clear hJ
  generalize w8.alloc (.cells #[.int .i64 a, .int .i64 q, .int .i64 u0, .int .i64 u1, .int .i64 u2, .int .i64 u3, .int .i64 u4, .slice p8 d.length c8] 28) = w9 at S9 O9 X8 ⊢
  refine (hasStateAndData_any _ _).mono ?_
  rintro e w10 ⟨rfl, rfl⟩
  rw [HST.out]
  have rc0 := S9.out.res.c0
  have rf0 := S9.out.res.f 0
  have rc1 := S9.out.res.c1
  have rf1 := S9.out.res.f 1
  have rc2 := S9.out.res.c2
  have rf2 := S9.out.res.f 2
  have rc3 := S9.out.res.c3
  have rf3 := S9.out.res.f 3
  have rc4 := S9.out.res.c4
  have rf4 := S9.out.res.f 4
  have rc5 := S9.out.res.c5
  have rf5 := S9.out.res.f 5
  have rc6 := S9.out.res.c6
  have rf6 := S9.out.res.f 6
  have rc7 := S9.out.res.c7
  have rf7 := S9.out.res.f 7
  obtain ⟨x0, x1, x2, x3, x4, x5, x6, x7⟩ := frame_cells X8.out
  obtain ⟨d0, d1, d2, d3, d4⟩ := S9.out.cells
  go_wp2_with fail
  clear x0 x1 x2 x3 x4 x5 x6 x7 d0 d1 d2 d3 d4 rc0 rf0 rc1 rf1 rc2 rf2 rc3 rf3 rc4 rf4 rc5 rf5 rc6 rf6 rc7 rf7
  change bodyPost _ _ _ _ _ (setEight w9 (w.heap.size + 1) a q u0 u1 u2 u3 u4 (.slice p8 d.length c8))
  obtain ⟨SF, BF⟩ := S9.out.fin a q u0 u1 u2 u3 u4 (.slice p8 d.length c8)
  have OF := (O9.out.awayEight (b := w.heap.size + 1) (Nat.lt_succ_self _) a q u0 u1 u2 u3 u4 (.slice p8 d.length c8)).more (base' := w.heap.size) (by omega)
  generalize setEight w9 (w.heap.size + 1) a q u0 u1 u2 u3 u4 (.slice p8 d.length c8) = wz at SF BF OF ⊢
  have e0 := SF.c0
  have e1 := SF.c1
  have e2 := SF.c2
  have e3 := SF.c3
  have e4 := SF.c4
  have e5 := SF.c5
  have e6 := SF.c6
  have e7 := SF.c7
  exact bodyPost_ret (v := .tuple #[.agg #[.int .i64 a, .int .i64 q, .int .i64 u0, .int .i64 u1, .int .i64 u2, .int .i64 u3, .int .i64 u4, .slice p8 d.length c8], .int .i64 0]) (by simp [results, Try.results25, go_sem, e0, e1, e2, e3, e4, e5, e6, e7]) rfl ⟨_, _, rfl, OF, BF⟩
set_option linter.unusedSimpArgs false in
set_option linter.unusedVariables false in
set_option maxHeartbeats 1000000 in
set_option maxRecDepth 100000 in
theorem io_G2 (b off c : Nat) (id t m r s k h x : Int) (ys zs xs : List Int) (w : World) (hr : Rd w (some ⟨b, off, none⟩) (ys.length + 3) xs) (hn : ys.length + 3 ≤ 1024) (hnc : ys.length ≤ c) (hcap2 : c + 3 ≤ 9223372036854775807) (hs : isState t m r s k = true) (hi : inRange 0 16777215 id = true) (hb : isBytes xs = true) (hl : 1 ≤ ys.length) (hh : xs.getD 0 0 = h) (hkh : kindOfHead h = (h / 64, 0)) (hy : xs.take ys.length = ys) (hz : xs.drop ys.length = zs) (hyb : ∀ x ∈ ys, 0 ≤ x ∧ x ≤ 255) (hx : sealNum (h / 64) id t m r s k ys = x) (hx2 : 0 ≤ x ∧ x ≤ 16777215) (a q u0 u1 u2 u3 u4 z : Int) (d : List Int) (hf : frameFrom ys = (⟨a, q, u0, u1, u2, u3, u4, d⟩, z)) (hd : decide (zs = three x) = true) (hz0 : z = 0) (hst : hasState (h / 64) = true) (hne : u0 = t ∧ u1 = m ∧ u2 = r ∧ u3 = s ∧ u4 = k) : Calls Try.prog 25 #[.slice (some ⟨b, off, none⟩) (ys.length + 3) (c + 3), .int .i64 id, .agg #[.int .i64 t, .int .i64 m, .int .i64 r, .int .i64 s, .int .i64 k]] w (GivesFB w ⟨a, q, u0, u1, u2, u3, u4, d⟩ (.int .i64 0)) := by
  obtain ⟨rfl, rfl, rfl, rfl, rfl⟩ := hne
  have hdl := frameFrom_len ys
  rw [hf] at hdl
  simp only at hdl
  have hff := fun (W : World) (cc : Nat) (hR : Rd W (some ⟨b, off, none⟩) ys.length ys) (h1 : ys.length ≤ cc) (h2 : cc ≤ 9223372036854775807) => frameFromBody_any (some ⟨b, off, none⟩) cc ys W hR (by omega) h1 h2
  rw [hf] at hff
  simp only at hff
  have HFF := Lib.hid hff; clear hff hf
  subst hz0
  have HST := Lib.hid hst; clear hst
  have hneq := fun W => state_neq_same u0 u1 u2 u3 u4 W
  have S0 := Lib.hid (OpenSt.start (t := u0) (m := u1) (r := u2) (s := u3) (k := u4) w)
  obtain ⟨b', off', e', hat⟩ := (hr.below S0.out.below).here (by omega)
  cases e'
  have hc0 := hat 0 (by omega)
  rw [hh, Nat.add_zero] at hc0
  clear hat hh
  have h1 := hr.first (a := ys.length) (by omega)
  rw [hy] at h1
  have h2 := hr.slice (a := ys.length) (k := 3) (by omega)
  rw [List.take_of_length_le (by rw [List.length_drop, hr.len]; omega), hz] at h2
  simp only [Option.map_some, Addr.add_lit] at h2
  have R1 := Lib.hid h1; have R2 := Lib.hid h2
  clear h1 h2
  have HR := Lib.hid hr; have HS := Lib.hid hs; have HI := Lib.hid hi; have HID := Lib.hid (inRange_iff.1 hi); have HB := Lib.hid hb; have HK := Lib.hid hkh; have HY := Lib.hid hyb; have HX := Lib.hid hx; have HX2 := Lib.hid hx2; have HD := Lib.hid hd
  have HT := Lib.hid (three_len x)
  clear hr hs hi hb hkh hy hz hyb hx hx2 hd
  have hlt : ¬ ((ys.length : Int) + 3 < 4) := by omega
  have h0c : (ys.length : Int) ≤ (c : Int) + 3 := by omega
  have h1c : (ys.length : Int) ≤ (ys.length : Int) + 3 := by omega
  have hcn : ¬ c + 3 = ys.length := by omega
  go_enter Try.func25, Try.ntmps25
  go_upto_region 1 with fail
  generalize (w.alloc (.cells #[.int .i64 u0, .int .i64 u1, .int .i64 u2, .int .i64 u3, .int .i64 u4] 25)).alloc (.cells #[.int .i64 0, .int .i64 0, .int .i64 0, .int .i64 0, .int .i64 0, .int .i64 0, .int .i64 0, .slice none 0 0] 28) = w0 at S0 hc0 ⊢
  obtain ⟨d0, d1, d2, d3, d4⟩ := S0.out.cells
  go_wp2_with fail
  clear d0 d1 d2 d3 d4
  refine (isState_any _ _ _ _ _ _).mono ?_
  rintro e w1 ⟨rfl, b1⟩
  rw [HS.out]
  have S1 := Lib.hid (S0.out.call b1)
  have hc1 := (b1.cell (p := ⟨b, off, none⟩) (World.block_lt_of_cell? _ _ hc0)).trans hc0
  clear hc0 b1 S0
  go_wp2_with fail
  refine (isId_any _ _).mono ?_
  rintro e w2 ⟨rfl, rfl⟩
  rw [HI.out]
  go_wp2_with fail
  refine (isBytes_any _ _ _ _ _ (HR.out.below S1.out.below) (by omega)).mono ?_
  rintro e w2 ⟨rfl, rfl⟩
  rw [HB.out]
  go_wp2_with fail
  clear hc1
  refine (kindOfHead_any _ _).mono ?_
  rintro e w2 ⟨rfl, rfl⟩
  rw [HK.out]
  simp only
  go_upto_region 10 with fail
  have S2 := Lib.hid S1.out.drew
  clear S1
  refine wp_region_held_drew (S := fun w' => w'.cell? ⟨w.heap.size, 0, none⟩ = some (.int .i64 u0) ∧ w'.cell? ⟨w.heap.size, 1, none⟩ = some (.int .i64 u1) ∧ w'.cell? ⟨w.heap.size, 2, none⟩ = some (.int .i64 u2) ∧ w'.cell? ⟨w.heap.size, 3, none⟩ = some (.int .i64 u3) ∧ w'.cell? ⟨w.heap.size, 4, none⟩ = some (.int .i64 u4)) (by kernel_rfl) (OpenSt.cells S2.out) (fun hHeld => ?_)
  refine wpAnyH_take (i := 0) (v := ?_) rfl (by kernel_rfl) (by kernel_rfl) (by kernel_rfl) (fun _ _ _ h => h) (Or.inl ⟨by rfl, ?_⟩) (by assumption) ?_
  rotate_left
  · (intro w hSw; (try dsimp only at hSw); go_simp; (try with_reducible rfl))
  try simp only [List.getElem_toArray, List.getElem_cons_succ, List.getElem_cons_zero, Act.put, List.setIfInBounds_toArray, List.set_cons_zero, List.set_cons_succ]
  refine wpAnyH_take (i := 1) (v := ?_) rfl (by kernel_rfl) (by kernel_rfl) (by kernel_rfl) (fun _ _ _ h => h) (Or.inl ⟨by rfl, ?_⟩) (by assumption) ?_
  rotate_left
  · (intro w hSw; (try dsimp only at hSw); go_simp; (try with_reducible rfl))
  try simp only [List.getElem_toArray, List.getElem_cons_succ, List.getElem_cons_zero, Act.put, List.setIfInBounds_toArray, List.set_cons_zero, List.set_cons_succ]
  refine wpAnyH_take (i := 2) (v := ?_) rfl (by kernel_rfl) (by kernel_rfl) (by kernel_rfl) (fun _ _ _ h => h) (Or.inl ⟨by rfl, ?_⟩) (by assumption) ?_
  rotate_left
  · (intro w hSw; (try dsimp only at hSw); go_simp; (try with_reducible rfl))
  try simp only [List.getElem_toArray, List.getElem_cons_succ, List.getElem_cons_zero, Act.put, List.setIfInBounds_toArray, List.set_cons_zero, List.set_cons_succ]
  refine wpAnyH_take (i := 3) (v := ?_) rfl (by kernel_rfl) (by kernel_rfl) (by kernel_rfl) (fun _ _ _ h => h) (Or.inl ⟨by rfl, ?_⟩) (by assumption) ?_
  rotate_left
  · (intro w hSw; (try dsimp only at hSw); go_simp; (try with_reducible rfl))
  try simp only [List.getElem_toArray, List.getElem_cons_succ, List.getElem_cons_zero, Act.put, List.setIfInBounds_toArray, List.set_cons_zero, List.set_cons_succ]
  refine wpAnyH_take (i := 4) (v := ?_) rfl (by kernel_rfl) (by kernel_rfl) (by kernel_rfl) (fun _ _ _ h => h) (Or.inl ⟨by rfl, ?_⟩) (by assumption) ?_
  rotate_left
  · (intro w hSw; (try dsimp only at hSw); go_simp; (try with_reducible rfl))
  try simp only [List.getElem_toArray, List.getElem_cons_succ, List.getElem_cons_zero, Act.put, List.setIfInBounds_toArray, List.set_cons_zero, List.set_cons_succ]
  refine wpAnyH_take (i := 6) (v := ?_) rfl (by kernel_rfl) (by kernel_rfl) (by kernel_rfl) (fun _ _ _ h => h) (Or.inl ⟨by rfl, ?_⟩) (by assumption) ?_
  rotate_left
  · (intro w hSw; (try dsimp only at hSw); go_simp; (try with_reducible rfl))
  try simp only [List.getElem_toArray, List.getElem_cons_succ, List.getElem_cons_zero, Act.put, List.setIfInBounds_toArray, List.set_cons_zero, List.set_cons_succ]
  refine wpAnyH_take (i := 7) (v := ?_) rfl (by kernel_rfl) (by kernel_rfl) (by kernel_rfl) (fun _ _ _ h => h) (Or.inl ⟨by rfl, ?_⟩) (by assumption) ?_
  rotate_left
  · (intro w hSw; (try dsimp only at hSw); go_simp; (try with_reducible rfl))
  try simp only [List.getElem_toArray, List.getElem_cons_succ, List.getElem_cons_zero, Act.put, List.setIfInBounds_toArray, List.set_cons_zero, List.set_cons_succ]
  refine wpAnyH_ready (rs := [5]) (by kernel_rfl) (by simp) (AllReadyH.cons rfl (fun K hK => ?_) AllReadyH.nil)
  go_simp
  refine (newSeal_any _ _ _ _ _ _ _).mono ?_
  rintro e w4 ⟨p4, rfl, hcy, b4⟩
  have S4 := Lib.hid (S2.out.call b4)
  have CY := Lib.hid hcy
  clear hcy b4
  go_wp2_with fail
  refine hK.out _ _ ?_ (fun hHeld => ?_)
  · exact OpenSt.cells S4.out
  clear hK K
  try simp only [List.getElem_toArray, List.getElem_cons_succ, List.getElem_cons_zero, Act.put, List.setIfInBounds_toArray, List.set_cons_zero, List.set_cons_succ]
  refine wpAnyH_ready (rs := [8]) (by kernel_rfl) (by simp) (AllReadyH.cons rfl (fun K hK => ?_) AllReadyH.nil)
  go_simp
  refine (check_any p4 id _ _ _ _ _ _ _ _ _ ys _ HID.out CY.out (R1.out.below S4.out.below) (by omega) HY.out).mono ?_
  rintro e w5 ⟨rfl, b5⟩
  rw [HX.out]
  have S5 := Lib.hid (S4.out.call b5)
  clear b5
  go_wp2_with fail
  refine hK.out _ _ ?_ (fun hHeld => ?_)
  · exact OpenSt.cells S5.out
  clear hK K
  try simp only [List.getElem_toArray, List.getElem_cons_succ, List.getElem_cons_zero, Act.put, List.setIfInBounds_toArray, List.set_cons_zero, List.set_cons_succ]
  refine wpAnyH_ready (rs := [9]) (by kernel_rfl) (by simp) (AllReadyH.cons rfl (fun K hK => ?_) AllReadyH.nil)
  go_simp
  refine (bytesOfCheck_any x _ HX2.out).mono ?_
  rintro e w6 m6
  obtain ⟨p6, c6, rfl, -, r6, b6⟩ := m6.get
  have S6 := Lib.hid (S5.out.call b6)
  have R6 := Lib.hid r6
  clear m6 r6 b6
  go_wp2_with fail
  refine hK.out _ _ ?_ (fun hHeld => ?_)
  · exact OpenSt.cells S6.out
  clear hK K
  try simp only [List.getElem_toArray, List.getElem_cons_succ, List.getElem_cons_zero, Act.put, List.setIfInBounds_toArray, List.set_cons_zero, List.set_cons_succ]
  refine wpAnyH_ready (rs := [10]) (by kernel_rfl) (by simp) (AllReadyH.cons rfl (fun K hK => ?_) AllReadyH.nil)
  go_simp
  refine (equal_any _ _ _ _ _ _ _ _ _ (R2.out.below S6.out.below) R6.out (by omega) (by have := HT.out; omega)).mono ?_
  rintro e w7 ⟨rfl, q7, rfl⟩
  rw [HD.out]
  have S7 := Lib.hid (S6.out.call (below_drewN' (Below.refl _ _) q7))
  clear R6
  go_wp2_with fail
  refine hK.out _ _ ?_ (fun hHeld => ?_)
  · exact OpenSt.cells S7.out
  clear hK K
  try simp only [List.getElem_toArray, List.getElem_cons_succ, List.getElem_cons_zero, Act.put, List.setIfInBounds_toArray, List.set_cons_zero, List.set_cons_succ]
  refine wpAnyH_take (i := 11) (v := ?_) rfl (by kernel_rfl) (by kernel_rfl) (by kernel_rfl) (fun _ _ _ h => h) (Or.inl ⟨by rfl, ?_⟩) (by assumption) ?_
  rotate_left
  · (intro w hSw; (try dsimp only at hSw); go_simp; (try with_reducible rfl))
  try simp only [List.getElem_toArray, List.getElem_cons_succ, List.getElem_cons_zero, Act.put, List.setIfInBounds_toArray, List.set_cons_zero, List.set_cons_succ]
  refine wpAnyH_done (by kernel_rfl) ?_ _
  clear S2 S4 S5 S6 CY
  go_wp2_with fail
  refine (HFF.out _ _ (R1.out.below S7.out.below) (by omega) (by omega)).mono ?_
  rintro e w8 ⟨p8, c8, rfl, o8, b8⟩
  simp only at o8 ⊢
  have hsz := S7.out.size
  have S8 := Lib.hid (S7.out.call b8)
  have O8 := Lib.hid (o8.more (base' := w.heap.size + 2) hsz)
  have hd8 := Below.alloc (Below.refl w8.heap.size w8) (Nat.le_refl _) (.cells #[.int .i64 a, .int .i64 q, .int .i64 u0, .int .i64 u1, .int .i64 u2, .int .i64 u3, .int .i64 u4, .slice p8 d.length c8] 28)
  have X8 := Lib.hid (FrameAt.new (T := 28) (a := a) (q := q) (t := u0) (m := u1) (r := u2) (s := u3) (k := u4) (v := .slice p8 d.length c8) w8)
  have S9 := Lib.hid (S8.out.call hd8)
  have O9 := Lib.hid (O8.out.below hd8)
  clear o8 b8 hsz hd8 S7 S8 O8
  go_wp2_with fail
  obtain ⟨J, hJ⟩ : ∃ J, J = w8.heap.size := ⟨_, rfl⟩
  rw [← hJ] at X8 ⊢
  clear hJ
  generalize w8.alloc (.cells #[.int .i64 a, .int .i64 q, .int .i64 u0, .int .i64 u1, .int .i64 u2, .int .i64 u3, .int .i64 u4, .slice p8 d.length c8] 28) = w9 at S9 O9 X8 ⊢
  refine (hasStateAndData_any _ _).mono ?_
  rintro e w10 ⟨rfl, rfl⟩
  rw [HST.out]
  have rc0 := S9.out.res.c0
  have rf0 := S9.out.res.f 0
  have rc1 := S9.out.res.c1
  have rf1 := S9.out.res.f 1
  have rc2 := S9.out.res.c2
  have rf2 := S9.out.res.f 2
  have rc3 := S9.out.res.c3
  have rf3 := S9.out.res.f 3
  have rc4 := S9.out.res.c4
  have rf4 := S9.out.res.f 4
  have rc5 := S9.out.res.c5
  have rf5 := S9.out.res.f 5
  have rc6 := S9.out.res.c6
  have rf6 := S9.out.res.f 6
  have rc7 := S9.out.res.c7
  have rf7 := S9.out.res.f 7
  obtain ⟨x0, x1, x2, x3, x4, x5, x6, x7⟩ := frame_cells X8.out
  obtain ⟨d0, d1, d2, d3, d4⟩ := S9.out.cells
  go_wp2_with fail
  clear x0 x1 x2 x3 x4 x5 x6 x7 d0 d1 d2 d3 d4 rc0 rf0 rc1 rf1 rc2 rf2 rc3 rf3 rc4 rf4 rc5 rf5 rc6 rf6 rc7 rf7
  change bodyPost _ _ _ _ _ (setEight w9 (w.heap.size + 1) a q u0 u1 u2 u3 u4 (.slice p8 d.length c8))
  obtain ⟨SF, BF⟩ := S9.out.fin a q u0 u1 u2 u3 u4 (.slice p8 d.length c8)
  have OF := (O9.out.awayEight (b := w.heap.size + 1) (Nat.lt_succ_self _) a q u0 u1 u2 u3 u4 (.slice p8 d.length c8)).more (base' := w.heap.size) (by omega)
  generalize setEight w9 (w.heap.size + 1) a q u0 u1 u2 u3 u4 (.slice p8 d.length c8) = wz at SF BF OF ⊢
  have e0 := SF.c0
  have e1 := SF.c1
  have e2 := SF.c2
  have e3 := SF.c3
  have e4 := SF.c4
  have e5 := SF.c5
  have e6 := SF.c6
  have e7 := SF.c7
  exact bodyPost_ret (v := .tuple #[.agg #[.int .i64 a, .int .i64 q, .int .i64 u0, .int .i64 u1, .int .i64 u2, .int .i64 u3, .int .i64 u4, .slice p8 d.length c8], .int .i64 0]) (by simp [results, Try.results25, go_sem, e0, e1, e2, e3, e4, e5, e6, e7]) rfl ⟨_, _, rfl, OF, BF⟩
end Go.Proofs.Ytbdfnkhmnglpbaa
