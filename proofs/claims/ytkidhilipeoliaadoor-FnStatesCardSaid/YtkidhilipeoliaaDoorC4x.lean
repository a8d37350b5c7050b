/-
  Chapter 4: spec.ReadState.
-/
import Derived.Test.YtkidhilipeoliaaDoorC4w
import Derived.Test.YtkidhilipeoliaaDoorC4c
import Derived.Test.YtkidhilipeoliaaDoorC4s
import Derived.StillTailTactics
namespace Go.Proofs.YtkidhilipeoliaaDoor
open Go.RowKit
/-- What ReadState leaves: the state that was read, or the zero one and false. -/
def GivesRead (w : World) (o : Option (Int × Int × Int × Int × Int)) (e : Ending) (w' : World) : Prop :=
  (match o with
    | none => e = .returned (.tuple #[.agg #[.int .i64 0, .int .i64 0, .int .i64 0, .int .i64 0, .int .i64 0], .bool false])
    | some (t, m, r, s, k) => e = .returned (.tuple #[.agg #[.int .i64 t, .int .i64 m, .int .i64 r, .int .i64 s, .int .i64 k], .bool true])) ∧ Below w.heap.size w w'
theorem rs_numbers (s : ByteArray) : numbers (splitBy (nums s)) = if numsOk (words s) = true then some ((words s).map fun x => (valS x).1) else none := by
  rw [← words_split, numbers_words]
theorem rs_no {s : ByteArray} (h : numsOk (words s) = false) : readState (nums s) = none := by
  unfold readState
  rw [rs_numbers, if_neg (by rw [h]; simp)]
theorem rs_len {s : ByteArray} (h : numsOk (words s) = true) (h2 : ((words s).map fun x => (valS x).1).length ≠ 5) : readState (nums s) = none := by
  unfold readState
  rw [rs_numbers, if_pos h]
  split
  · rename_i e
    simp only [Option.some.injEq] at e
    rw [e] at h2
    exact absurd rfl h2
  · rfl
theorem rs_five {s : ByteArray} {a b c d e : Int} (h : numsOk (words s) = true) (h2 : ((words s).map fun x => (valS x).1) = [a, b, c, d, e]) : readState (nums s) = if isState a b c d e = true then some (a, b, c, d, e) else none := by
  unfold readState
  rw [rs_numbers, if_pos h, h2]
theorem list_five {xs : List Int} (h : xs.length = 5) : ∃ a b c d e, xs = [a, b, c, d, e] := by
  match xs, h with
  | [a, b, c, d, e], _ => exact ⟨a, b, c, d, e, rfl⟩
theorem five_here {E base : Nat} {w : World} {v : Value} {a b c d e : Int} (h : Own E w base v [a, b, c, d, e]) : ∃ g cap, v = .slice (some ⟨g, 0, none⟩) 5 cap ∧ w.cell? ⟨g, 0, none⟩ = some (.int .i64 a) ∧ w.cell? ⟨g, 1, none⟩ = some (.int .i64 b) ∧ w.cell? ⟨g, 2, none⟩ = some (.int .i64 c) ∧ w.cell? ⟨g, 3, none⟩ = some (.int .i64 d) ∧ w.cell? ⟨g, 4, none⟩ = some (.int .i64 e) := by
  obtain ⟨ao, cap, rfl, r, _, _, hg⟩ := h.form
  rcases hg with hg | ⟨g, rfl, _, _⟩
  · cases hg
  · obtain ⟨b', off, he, hc⟩ := r.here (by simp)
    cases he
    exact ⟨g, cap, rfl, hc 0 (by simp), hc 1 (by simp), hc 2 (by simp), hc 3 (by simp), hc 4 (by simp)⟩
theorem alloc_old {w : World} {o : Obj} {p : Addr} {v : Value} (h : w.cell? p = some v) : (w.alloc o).cell? p = some v := by
  rw [World.cell?_alloc_lt (h := World.block_lt_of_cell? w _ h)]; exact h
theorem below_zero_box (w : World) (T : TypeId) : Below w.heap.size w (w.alloc (.cells #[.int .i64 0, .int .i64 0, .int .i64 0, .int .i64 0, .int .i64 0] T)) := (Below.refl _ _).alloc (Nat.le_refl _) _
theorem mem_words {s x : ByteArray} (h : x ∈ words s) : x.size ≤ s.size := by
  have hd : ∀ k, k ≤ s.size → ∀ y ∈ doneAt s k, y.size ≤ s.size := by
    intro k
    induction k with
    | zero => intro _ y hy; simp [doneAt] at hy
    | succ k ih =>
      intro hk y hy
      cases hs : slashAt s k
      · rw [done_miss hs] at hy; exact ih (by omega) y hy
      · rw [done_hit hs, List.mem_append] at hy
        rcases hy with hy | hy
        · exact ih (by omega) y hy
        · simp only [List.mem_singleton] at hy
          subst hy
          simp only [ByteArray.size_extract]
          omega
  unfold words at h
  rw [List.mem_append] at h
  rcases h with h | h
  · exact hd _ (Nat.le_refl _) x h
  · simp only [List.mem_singleton] at h
    subst h
    simp only [ByteArray.size_extract]
    omega
set_option maxHeartbeats 1000000 in
set_option maxRecDepth 100000 in
theorem sReadState_any (s : ByteArray) (w : World) (hn : s.size ≤ 1048576) : Calls Tryd.prog 14 #[.string s] w (GivesRead w (readState (nums s))) := by
  have hwl := words_len s
  have hwx : ∀ x ∈ words s, x.size ≤ 1048576 := fun x hx => Nat.le_trans (mem_words hx) hn
  have HWL := Lib.hid (show (words s).length ≤ 1048577 by omega); clear hwl
  have HWX := Lib.hid hwx; clear hwx
  have B0 := below_zero_box w 25
  have HB0 := Lib.hid B0; clear B0
  obtain ⟨ws, hws⟩ : ∃ ws, words s = ws := ⟨_, rfl⟩
  rw [hws] at HWL HWX
  have HWS := Lib.hid hws; clear hws
  obtain ⟨o, ho⟩ : ∃ o, readState (nums s) = o := ⟨_, rfl⟩
  rw [ho]
  have HO := Lib.hid ho; clear ho
  cases hok : numsOk ws
  · have hnone : o = none := by rw [← HO.out]; exact rs_no (by rw [HWS.out]; exact hok)
    subst hnone
    have HV := Lib.hid (numsS_no hok); clear hok
    go_enter Tryd.func14, Tryd.ntmps14
    go_wp2_with (first
      | (go_at_call 35; refine (l01Split_any s _ hn).mono ?_; rintro e w1 ⟨v, rfl, o1, b1⟩; rw [HWS.out] at o1; obtain ⟨ao, cap, rfl, _, _, hrd⟩ := o1.form; have HRD := Lib.hid hrd; have B1 := Lib.hid b1; clear b1 o1 hrd)
      | (go_at_call 34; refine (l04Numbers_any ao cap ws _ HRD.out HWL.out HWX.out).mono ?_; rw [HV.out]; rintro e w2 ⟨v2, rfl, o2, b2⟩; have Z := state_new (below_two B1.out b2); have ZZ := Lib.hid Z; have c0 := Z.c0; have c1 := Z.c1; have c2 := Z.c2; have c3 := Z.c3; have c4 := Z.c4; have f0 := Z.f 0; have f1 := Z.f 1; have f2 := Z.f 2; have f3 := Z.f 3; have f4 := Z.f 4; clear Z; have B2 := Lib.hid (below_box (below_two B1.out b2)); clear o2 b2))
    clear c0 c1 c2 c3 c4 f0 f1 f2 f3 f4
    change bodyPost _ _ _ _ _ (setFive w2 w.heap.size 0 0 0 0 0)
    have SF := StateAt.five ZZ.out 0 0 0 0 0
    have BF := below_two' B2.out (below_five (B := w.heap.size) (w := w2) (b := w.heap.size) (Nat.le_refl _) 0 0 0 0 0)
    generalize setFive w2 w.heap.size 0 0 0 0 0 = wz at SF BF ⊢
    have e0 := SF.c0
    have e1 := SF.c1
    have e2 := SF.c2
    have e3 := SF.c3
    have e4 := SF.c4
    exact bodyPost_ret (v := .tuple #[.agg #[.int .i64 0, .int .i64 0, .int .i64 0, .int .i64 0, .int .i64 0], .bool false]) (by simp [results, Tryd.results14, go_sem, e0, e1, e2, e3, e4]) rfl ⟨rfl, BF⟩
  · obtain ⟨xs, hxs⟩ : ∃ xs, (ws.map fun x => (valS x).1) = xs := ⟨_, rfl⟩
    have hv := numsS_yes hok
    rw [hxs] at hv
    have HV := Lib.hid hv; clear hv
    by_cases hl : xs.length = 5
    · obtain ⟨a, b, c, d, f, rfl⟩ := list_five hl
      have hr := rs_five (s := s) (by rw [HWS.out]; exact hok) (by rw [HWS.out]; exact hxs)
      rw [HO.out] at hr
      clear hok hxs hl
      have HR := Lib.hid hr; clear hr
      go_enter Tryd.func14, Tryd.ntmps14
      go_wp2_with (first
        | (go_at_call 35; refine (l01Split_any s _ hn).mono ?_; rintro e w1 ⟨v, rfl, o1, b1⟩; rw [HWS.out] at o1; obtain ⟨ao, cap, rfl, _, _, hrd⟩ := o1.form; have HRD := Lib.hid hrd; have B1 := Lib.hid b1; clear b1 o1 hrd)
        | (go_at_call 34; refine (l04Numbers_any ao cap ws _ HRD.out HWL.out HWX.out).mono ?_; rw [HV.out]; rintro e w2 ⟨v2, rfl, o2, b2⟩; obtain ⟨g, cap2, rfl, g0, g1, g2, g3, g4⟩ := five_here o2; have ZZ := Lib.hid (state_new (below_two B1.out b2)); have B2 := Lib.hid (below_box (below_two B1.out b2)); clear b2 o2))
      have hz0 := alloc_old (o := .cells #[.int .i64 0, .int .i64 0, .int .i64 0, .int .i64 0, .int .i64 0] 25) g0
      have hz1 := alloc_old (o := .cells #[.int .i64 0, .int .i64 0, .int .i64 0, .int .i64 0, .int .i64 0] 25) g1
      have hz2 := alloc_old (o := .cells #[.int .i64 0, .int .i64 0, .int .i64 0, .int .i64 0, .int .i64 0] 25) g2
      have hz3 := alloc_old (o := .cells #[.int .i64 0, .int .i64 0, .int .i64 0, .int .i64 0, .int .i64 0] 25) g3
      have hz4 := alloc_old (o := .cells #[.int .i64 0, .int .i64 0, .int .i64 0, .int .i64 0, .int .i64 0] 25) g4
      go_region
      clear g0 g1 g2 g3 g4 hz0 hz1 hz2 hz3 hz4
      cases hs : isState a b c d f
      · have ho : o = none := by rw [HR.out, hs]; rfl
        subst ho
        have HS := Lib.hid hs; clear hs
        go_wp2_with fail
        refine (sIsState_any _ _ _ _ _ _).mono ?_
        rintro e w4 ⟨rfl, b4⟩
        rw [HS.out]
        have b5 := below_two ((Below.refl _ _).drew) b4
        have Z := ZZ.out.below (below_box b5) ZZ.out.lt
        have ZZ := Lib.hid Z
        have B4 := Lib.hid (below_two B2.out (below_box b5))
        have c0 := Z.c0; have c1 := Z.c1; have c2 := Z.c2; have c3 := Z.c3; have c4 := Z.c4; have f0 := Z.f 0; have f1 := Z.f 1; have f2 := Z.f 2; have f3 := Z.f 3; have f4 := Z.f 4
        clear Z b4 b5
        go_wp2_with fail
        clear c0 c1 c2 c3 c4 f0 f1 f2 f3 f4
        change bodyPost _ _ _ _ _ (setFive w4 w.heap.size 0 0 0 0 0)
        have SF := StateAt.five ZZ.out 0 0 0 0 0
        have BF := below_two' B4.out (below_five (B := w.heap.size) (w := w4) (b := w.heap.size) (Nat.le_refl _) 0 0 0 0 0)
        generalize setFive w4 w.heap.size 0 0 0 0 0 = wz at SF BF ⊢
        have e0 := SF.c0
        have e1 := SF.c1
        have e2 := SF.c2
        have e3 := SF.c3
        have e4 := SF.c4
        exact bodyPost_ret (v := .tuple #[.agg #[.int .i64 0, .int .i64 0, .int .i64 0, .int .i64 0, .int .i64 0], .bool false]) (by simp [results, Tryd.results14, go_sem, e0, e1, e2, e3, e4]) rfl ⟨rfl, BF⟩
      · have ho : o = some (a, b, c, d, f) := by rw [HR.out, hs]; rfl
        subst ho
        have HS := Lib.hid hs; clear hs
        go_wp2_with fail
        refine (sIsState_any _ _ _ _ _ _).mono ?_
        rintro e w4 ⟨rfl, b4⟩
        rw [HS.out]
        have b5 := below_two ((Below.refl _ _).drew) b4
        have Z := ZZ.out.below (below_box b5) ZZ.out.lt
        have ZZ := Lib.hid Z
        have B4 := Lib.hid (below_two B2.out (below_box b5))
        have c0 := Z.c0; have c1 := Z.c1; have c2 := Z.c2; have c3 := Z.c3; have c4 := Z.c4; have f0 := Z.f 0; have f1 := Z.f 1; have f2 := Z.f 2; have f3 := Z.f 3; have f4 := Z.f 4
        have Y := state_new b5
        have k0 := Y.c0; have k1 := Y.c1; have k2 := Y.c2; have k3 := Y.c3; have k4 := Y.c4
        clear Z b4 b5 Y
        go_wp2_with fail
        clear k0 k1 k2 k3 k4
        clear c0 c1 c2 c3 c4 f0 f1 f2 f3 f4
        change bodyPost _ _ _ _ _ (setFive w4 w.heap.size a b c d f)
        have SF := StateAt.five ZZ.out a b c d f
        have BF := below_two' B4.out (below_five (B := w.heap.size) (w := w4) (b := w.heap.size) (Nat.le_refl _) a b c d f)
        generalize setFive w4 w.heap.size a b c d f = wz at SF BF ⊢
        have e0 := SF.c0
        have e1 := SF.c1
        have e2 := SF.c2
        have e3 := SF.c3
        have e4 := SF.c4
        exact bodyPost_ret (v := .tuple #[.agg #[.int .i64 a, .int .i64 b, .int .i64 c, .int .i64 d, .int .i64 f], .bool true]) (by simp [results, Tryd.results14, go_sem, e0, e1, e2, e3, e4]) rfl ⟨rfl, BF⟩
    · have hnone : o = none := by rw [← HO.out]; exact rs_len (by rw [HWS.out]; exact hok) (by rw [HWS.out, hxs]; exact hl)
      subst hnone
      obtain ⟨n, hnn⟩ : ∃ n, xs.length = n := ⟨_, rfl⟩
      rw [hnn] at hl
      have t1 : ((n : Int) != 5) = true := by simp; omega
      have HNN := Lib.hid hnn
      clear hok hxs hl hnn
      go_enter Tryd.func14, Tryd.ntmps14
      go_wp2_with (first
        | (go_at_call 35; refine (l01Split_any s _ hn).mono ?_; rintro e w1 ⟨v, rfl, o1, b1⟩; rw [HWS.out] at o1; obtain ⟨ao, cap, rfl, _, _, hrd⟩ := o1.form; have HRD := Lib.hid hrd; have B1 := Lib.hid b1; clear b1 o1 hrd)
        | (go_at_call 34; refine (l04Numbers_any ao cap ws _ HRD.out HWL.out HWX.out).mono ?_; rw [HV.out]; rintro e w2 ⟨v2, rfl, o2, b2⟩; obtain ⟨ao2, cap2, rfl, _, _⟩ := o2.get; rw [HNN.out]; have Z := state_new (below_two B1.out b2); have ZZ := Lib.hid Z; have c0 := Z.c0; have c1 := Z.c1; have c2 := Z.c2; have c3 := Z.c3; have c4 := Z.c4; have f0 := Z.f 0; have f1 := Z.f 1; have f2 := Z.f 2; have f3 := Z.f 3; have f4 := Z.f 4; clear Z; have B2 := Lib.hid (below_box (below_two B1.out b2)); clear b2))
      clear c0 c1 c2 c3 c4 f0 f1 f2 f3 f4
      change bodyPost _ _ _ _ _ (setFive w2 w.heap.size 0 0 0 0 0)
      have SF := StateAt.five ZZ.out 0 0 0 0 0
      have BF := below_two' B2.out (below_five (B := w.heap.size) (w := w2) (b := w.heap.size) (Nat.le_refl _) 0 0 0 0 0)
      generalize setFive w2 w.heap.size 0 0 0 0 0 = wz at SF BF ⊢
      have e0 := SF.c0
      have e1 := SF.c1
      have e2 := SF.c2
      have e3 := SF.c3
      have e4 := SF.c4
      exact bodyPost_ret (v := .tuple #[.agg #[.int .i64 0, .int .i64 0, .int .i64 0, .int .i64 0, .int .i64 0], .bool false]) (by simp [results, Tryd.results14, go_sem, e0, e1, e2, e3, e4]) rfl ⟨rfl, BF⟩

end Go.Proofs.YtkidhilipeoliaaDoor
