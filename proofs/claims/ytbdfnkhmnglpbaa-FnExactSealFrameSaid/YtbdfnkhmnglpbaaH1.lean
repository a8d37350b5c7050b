/-
  Chapter 7: the seal of the program: its numbers, its code, the three bytes of a check number; the model's check number.
-/
import Derived.Test.YtbdfnkhmnglpbaaSe
import Derived.Test.YtbdfnkhmnglpbaaThree
import Derived.Test.YtbdfnkhmnglpbaaSixC
import Derived.Test.YtbdfnkhmnglpbaaTwoB
import Derived.Test.YtbdfnkhmnglpbaaOneB
import Derived.Test.YtbdfnkhmnglpbaaDrawB
import Derived.Test.YtbdfnkhmnglpbaaFourA
import Derived.Deep.RegionHeld3
namespace Go.Proofs.Ytbdfnkhmnglpbaa
open Go.RowKit

theorem isId_any (x : Int) (w : World) : Calls Try.prog 79 #[.int .i64 x] w fun e w' => e = .returned (.bool (inRange 0 16777215 x)) ∧ w = w' := by
  by_cases h0 : x < 0
  · rw [show inRange 0 16777215 x = false from by simp [inRange]; omega]
    go_enter Try.func79, Try.ntmps79
    go_wp2
    go_ret
    exact ⟨rfl, rfl⟩
  · by_cases h1 : 16777215 < x
    · rw [show inRange 0 16777215 x = false from by simp [inRange]; omega]
      go_enter Try.func79, Try.ntmps79
      go_wp2
      go_ret
      exact ⟨ret_bool (decide_eq_false (by omega)), rfl⟩
    · rw [show inRange 0 16777215 x = true from by simp [inRange]; omega]
      go_enter Try.func79, Try.ntmps79
      go_wp2
      go_ret
      exact ⟨rfl, rfl⟩
theorem l07Id_any (x : Int) (w : World) : Calls Try.prog 91 #[.int .i64 x] w fun e w' => e = .returned (.bool (inRange 0 16777215 x)) ∧ w = w' := by
  go_enter Try.func91, Try.ntmps91
  go_wp2_with fail
  refine (l01In_any _ _ _ _).mono ?_
  rintro e w' ⟨rfl, rfl⟩
  go_wp2
  go_ret
  exact ⟨rfl, rfl⟩
/-! ### the seal -/
/-- Block b holds a seal. -/
def SealAt (T : Nat) (w : World) (b : Nat) (p : Value) (id t m r s k : Int) : Prop := w.heap[b]? = some (.cells #[p, .int .i64 id, .int .i64 t, .int .i64 m, .int .i64 r, .int .i64 s, .int .i64 k] T (0, 0))
section
variable {T b : Nat} {w w' : World} {p : Value} {id t m r s k : Int}
theorem SealAt.c0 (h : SealAt T w b p id t m r s k) : w.cell? ⟨b, 0, none⟩ = some p := cell_of_row w b 0 _ _ (0, 0) h
theorem SealAt.c1 (h : SealAt T w b p id t m r s k) : w.cell? ⟨b, 1, none⟩ = some (.int .i64 id) := cell_of_row w b 1 _ _ (0, 0) h
theorem SealAt.c2 (h : SealAt T w b p id t m r s k) : w.cell? ⟨b, 2, none⟩ = some (.int .i64 t) := cell_of_row w b 2 _ _ (0, 0) h
theorem SealAt.c3 (h : SealAt T w b p id t m r s k) : w.cell? ⟨b, 3, none⟩ = some (.int .i64 m) := cell_of_row w b 3 _ _ (0, 0) h
theorem SealAt.c4 (h : SealAt T w b p id t m r s k) : w.cell? ⟨b, 4, none⟩ = some (.int .i64 r) := cell_of_row w b 4 _ _ (0, 0) h
theorem SealAt.c5 (h : SealAt T w b p id t m r s k) : w.cell? ⟨b, 5, none⟩ = some (.int .i64 s) := cell_of_row w b 5 _ _ (0, 0) h
theorem SealAt.c6 (h : SealAt T w b p id t m r s k) : w.cell? ⟨b, 6, none⟩ = some (.int .i64 k) := cell_of_row w b 6 _ _ (0, 0) h
theorem SealAt.f (h : SealAt T w b p id t m r s k) (i : Nat) : w.frozen? ⟨b, i, none⟩ = false := frozen_of_row w b i _ _ h
theorem SealAt.lt (h : SealAt T w b p id t m r s k) : b < w.heap.size := (Array.getElem?_eq_some_iff.1 h).1
theorem SealAt.below {B : Nat} (h : SealAt T w b p id t m r s k) (hb : Below B w w') (hlt : b < B) : SealAt T w' b p id t m r s k := (hb.block b hlt).trans h
theorem SealAt.new (w : World) : SealAt T (w.alloc (.cells #[p, .int .i64 id, .int .i64 t, .int .i64 m, .int .i64 r, .int .i64 s, .int .i64 k] T)) w.heap.size p id t m r s k := heap_alloc_new w _
end
/-- Seven stores in a row. -/
def setSeal (w : World) (b : Nat) (p : Value) (id t m r s k : Int) : World := ((((((w.setCell ⟨b, 0, none⟩ p).setCell ⟨b, 1, none⟩ (.int .i64 id)).setCell ⟨b, 2, none⟩ (.int .i64 t)).setCell ⟨b, 3, none⟩ (.int .i64 m)).setCell ⟨b, 4, none⟩ (.int .i64 r)).setCell ⟨b, 5, none⟩ (.int .i64 s)).setCell ⟨b, 6, none⟩ (.int .i64 k)
theorem SealAt.seven {T b : Nat} {w : World} {p : Value} {id t m r s k : Int} (h : SealAt T w b p id t m r s k) (p' : Value) (id' t' m' r' s' k' : Int) : SealAt T (setSeal w b p' id' t' m' r' s' k') b p' id' t' m' r' s' k' := by
  have h0 := heap_setCell_same w b 0 _ _ p' h
  have h1 := heap_setCell_same _ b 1 _ _ (.int .i64 id') h0
  have h2 := heap_setCell_same _ b 2 _ _ (.int .i64 t') h1
  have h3 := heap_setCell_same _ b 3 _ _ (.int .i64 m') h2
  have h4 := heap_setCell_same _ b 4 _ _ (.int .i64 r') h3
  have h5 := heap_setCell_same _ b 5 _ _ (.int .i64 s') h4
  have h6 := heap_setCell_same _ b 6 _ _ (.int .i64 k') h5
  simpa [SealAt, setSeal] using h6
theorem below_seal {B b : Nat} {w : World} (hb : B ≤ b) (p : Value) (id t m r s k : Int) : Below B w (setSeal w b p id t m r s k) := ((((((((Below.refl _ _).setCell hb _).setCell hb _).setCell hb _).setCell hb _).setCell hb _).setCell hb _).setCell hb _)
theorem StateAt.farSeal {T b c : Nat} {w : World} {t m r s k : Int} (h : StateAt T w c t m r s k) (hne : c ≠ b) (p' : Value) (id' t' m' r' s' k' : Int) : StateAt T (setSeal w b p' id' t' m' r' s' k') c t m r s k :=
  ((((((h.other hne).other hne).other hne).other hne).other hne).other hne).other hne
theorem CycTo.farSeal {W b p n : Nat} {g : BitVec W} {w : World} (h : CycTo g w p n) (hne : p ≠ b) (p' : Value) (id' t' m' r' s' k' : Int) : CycTo g (setSeal w b p' id' t' m' r' s' k') p n :=
  (heap_setCell_other _ _ _ _ hne).trans ((heap_setCell_other _ _ _ _ hne).trans ((heap_setCell_other _ _ _ _ hne).trans ((heap_setCell_other _ _ _ _ hne).trans ((heap_setCell_other _ _ _ _ hne).trans ((heap_setCell_other _ _ _ _ hne).trans ((heap_setCell_other _ _ _ _ hne).trans h))))))
theorem newStd_any (w : World) : Calls Try.prog 119 #[.agg #[.int .i64 24, .int .i64 6122955]] w (CycMade stdG w) := by
  have h := newCode_any 24 stdG w (by omega) (by omega)
  rw [std_nat] at h
  exact h
theorem state_cells {T b : Nat} {w : World} {t m r s k : Int} (h : StateAt T w b t m r s k) : w.cell? ⟨b, 0, none⟩ = some (.int .i64 t) ∧ w.cell? ⟨b, 1, none⟩ = some (.int .i64 m) ∧ w.cell? ⟨b, 2, none⟩ = some (.int .i64 r) ∧ w.cell? ⟨b, 3, none⟩ = some (.int .i64 s) ∧ w.cell? ⟨b, 4, none⟩ = some (.int .i64 k) := ⟨h.c0, h.c1, h.c2, h.c3, h.c4⟩
/-- What newSeal leaves. -/
def SealMade (w : World) (id t m r s k : Int) (e : Ending) (w' : World) : Prop :=
  ∃ p, e = .returned (.agg #[.pointer (some ⟨p, 0, none⟩), .int .i64 id, .int .i64 t, .int .i64 m, .int .i64 r, .int .i64 s, .int .i64 k]) ∧ CycTo stdG w' p 256 ∧ Below w.heap.size w w'
set_option maxHeartbeats 1000000 in
set_option maxRecDepth 100000 in
theorem newSeal_any (id t m r s k : Int) (w : World) : Calls Try.prog 80 #[.int .i64 id, .agg #[.int .i64 t, .int .i64 m, .int .i64 r, .int .i64 s, .int .i64 k]] w (SealMade w id t m r s k) := by
  have y0 : StateAt 25 ((w.alloc (.cells #[.int .i64 t, .int .i64 m, .int .i64 r, .int .i64 s, .int .i64 k] 25)).alloc (.cells #[.pointer none, .int .i64 0, .int .i64 0, .int .i64 0, .int .i64 0, .int .i64 0, .int .i64 0] 97)) w.heap.size t m r s k :=
    (StateAt.new w).below (Below.alloc (Below.refl _ _) (Nat.le_refl _) _) (by simp)
  have y1 : SealAt 97 ((w.alloc (.cells #[.int .i64 t, .int .i64 m, .int .i64 r, .int .i64 s, .int .i64 k] 25)).alloc (.cells #[.pointer none, .int .i64 0, .int .i64 0, .int .i64 0, .int .i64 0, .int .i64 0, .int .i64 0] 97)) (w.heap.size + 1) (.pointer none) 0 0 0 0 0 0 := by
    have h := SealAt.new (T := 97) (p := .pointer none) (id := 0) (t := 0) (m := 0) (r := 0) (s := 0) (k := 0) (w.alloc (.cells #[.int .i64 t, .int .i64 m, .int .i64 r, .int .i64 s, .int .i64 k] 25))
    rw [show (w.alloc (.cells #[.int .i64 t, .int .i64 m, .int .i64 r, .int .i64 s, .int .i64 k] 25)).heap.size = w.heap.size + 1 from by simp] at h
    exact h
  have yb : Below w.heap.size w ((w.alloc (.cells #[.int .i64 t, .int .i64 m, .int .i64 r, .int .i64 s, .int .i64 k] 25)).alloc (.cells #[.pointer none, .int .i64 0, .int .i64 0, .int .i64 0, .int .i64 0, .int .i64 0, .int .i64 0] 97)) := ((Below.refl _ _).alloc (Nat.le_refl _) _).alloc (by simp) _
  have Y0 := Lib.hid y0; have Y1 := Lib.hid y1; have YB := Lib.hid yb; clear y0 y1 yb
  go_enter Try.func80, Try.ntmps80
  go_upto_region 1 with fail
  generalize ((w.alloc (.cells #[.int .i64 t, .int .i64 m, .int .i64 r, .int .i64 s, .int .i64 k] 25)).alloc (.cells #[.pointer none, .int .i64 0, .int .i64 0, .int .i64 0, .int .i64 0, .int .i64 0, .int .i64 0] 97)) = w0 at Y0 Y1 YB ⊢
  have z0 : Hid (StateAt 25 w0.drew w.heap.size t m r s k) := Y0
  have z1 : Hid (SealAt 97 w0.drew (w.heap.size + 1) (.pointer none) 0 0 0 0 0 0) := Y1
  have zb := Lib.hid YB.out.drew
  clear Y0 Y1 YB
  refine wp_region_held_drew (S := fun w' => w'.cell? ⟨w.heap.size, 0, none⟩ = some (.int .i64 t) ∧ w'.cell? ⟨w.heap.size, 1, none⟩ = some (.int .i64 m) ∧ w'.cell? ⟨w.heap.size, 2, none⟩ = some (.int .i64 r) ∧ w'.cell? ⟨w.heap.size, 3, none⟩ = some (.int .i64 s) ∧ w'.cell? ⟨w.heap.size, 4, none⟩ = some (.int .i64 k)) (by kernel_rfl) (state_cells z0.out) (fun hHeld => ?_)
  refine wpAnyH_take (i := 2) (v := ?_) rfl (by kernel_rfl) (by kernel_rfl) (by kernel_rfl) (fun _ _ _ h => h) (Or.inl ⟨by rfl, ?_⟩) (by assumption) ?_
  rotate_left
  · (intro w hSw; (try dsimp only at hSw); go_simp; (try with_reducible rfl))
  try simp only [List.getElem_toArray, List.getElem_cons_succ, List.getElem_cons_zero, Act.put, List.setIfInBounds_toArray, List.set_cons_zero, List.set_cons_succ]
  refine wpAnyH_take (i := 3) (v := ?_) rfl (by kernel_rfl) (by kernel_rfl) (by kernel_rfl) (fun _ _ _ h => h) (Or.inl ⟨by rfl, ?_⟩) (by assumption) ?_
  rotate_left
  · (intro w hSw; (try dsimp only at hSw); go_simp; (try with_reducible rfl))
  try simp only [List.getElem_toArray, List.getElem_cons_succ, List.getElem_cons_zero, Act.put, List.setIfInBounds_toArray, List.set_cons_zero, List.set_cons_succ]
  refine wpAnyH_ready (rs := [0]) (by kernel_rfl) (by simp) (AllReadyH.cons rfl (fun K hK => ?_) AllReadyH.nil)
  go_simp
  refine (standardCrc_any _).mono ?_
  rintro e w1 ⟨rfl, b1⟩
  have z3 := Lib.hid (z0.out.below b1 z0.out.lt)
  have z4 := Lib.hid (z1.out.below b1 z1.out.lt)
  have zc := Lib.hid (below_two zb.out b1)
  clear b1
  go_wp2_with fail
  refine hK.out _ _ ?_ (fun hHeld => ?_)
  · exact state_cells z3.out
  clear hK K
  try simp only [List.getElem_toArray, List.getElem_cons_succ, List.getElem_cons_zero, Act.put, List.setIfInBounds_toArray, List.set_cons_zero, List.set_cons_succ]
  refine wpAnyH_ready (rs := [1]) (by kernel_rfl) (by simp) (AllReadyH.cons rfl (fun K hK => ?_) AllReadyH.nil)
  go_simp
  refine (newStd_any _).mono ?_
  rintro e w2 ⟨p, rfl, hcy, hp, b2⟩
  have z5 := Lib.hid (z3.out.below b2 z3.out.lt)
  have z6 := Lib.hid (z4.out.below b2 z4.out.lt)
  have zd := Lib.hid (below_two zc.out b2)
  have hpl : Hid (w.heap.size + 2 ≤ p) := Lib.hid (by have h := z4.out.lt; omega)
  have zy := Lib.hid hcy
  clear hcy hp b2
  go_wp2_with fail
  refine hK.out _ _ ?_ (fun hHeld => ?_)
  · exact state_cells z5.out
  clear hK K
  try simp only [List.getElem_toArray, List.getElem_cons_succ, List.getElem_cons_zero, Act.put, List.setIfInBounds_toArray, List.set_cons_zero, List.set_cons_succ]
  refine wpAnyH_take (i := 4) (v := ?_) rfl (by kernel_rfl) (by kernel_rfl) (by kernel_rfl) (fun _ _ _ h => h) (Or.inl ⟨by rfl, ?_⟩) (by assumption) ?_
  rotate_left
  · (intro w hSw; (try dsimp only at hSw); go_simp; (try with_reducible rfl))
  try simp only [List.getElem_toArray, List.getElem_cons_succ, List.getElem_cons_zero, Act.put, List.setIfInBounds_toArray, List.set_cons_zero, List.set_cons_succ]
  have d0 := z6.out.c0
  have d1 := z6.out.c1
  have d2 := z6.out.c2
  have d3 := z6.out.c3
  have d4 := z6.out.c4
  have d5 := z6.out.c5
  have d6 := z6.out.c6
  have f0 := z6.out.f 0
  have f1 := z6.out.f 1
  have f2 := z6.out.f 2
  have f3 := z6.out.f 3
  have f4 := z6.out.f 4
  have f5 := z6.out.f 5
  have f6 := z6.out.f 6
  have z7 := Lib.hid (z5.out.farSeal (b := w.heap.size + 1) (by omega) (.pointer (some ⟨p, 0, none⟩)) id t m r s k)
  refine wpAnyH_ready (rs := [5]) (by kernel_rfl) (by simp) (AllReadyH.cons rfl (fun K hK => ?_) AllReadyH.nil)
  go_simp
  refine hK.out _ _ ?_ (fun hHeld => ?_)
  · exact state_cells z7.out
  clear hK K
  try simp only [List.getElem_toArray, List.getElem_cons_succ, List.getElem_cons_zero, Act.put, List.setIfInBounds_toArray, List.set_cons_zero, List.set_cons_succ]
  refine wpAnyH_done (by kernel_rfl) ?_ _
  clear d0 d1 d2 d3 d4 d5 d6 f0 f1 f2 f3 f4 f5 f6
  go_wp2_with fail
  change bodyPost _ _ _ _ _ (setSeal w2 (w.heap.size + 1) (.pointer (some ⟨p, 0, none⟩)) id t m r s k)
  have SF := z6.out.seven (.pointer (some ⟨p, 0, none⟩)) id t m r s k
  have BF := below_two' zd.out (below_seal (B := w.heap.size) (w := w2) (b := w.heap.size + 1) (by omega) (.pointer (some ⟨p, 0, none⟩)) id t m r s k)
  have CF : CycTo stdG (setSeal w2 (w.heap.size + 1) (.pointer (some ⟨p, 0, none⟩)) id t m r s k) p 256 := zy.out.farSeal (by have := hpl.out; omega) _ _ _ _ _ _ _
  generalize setSeal w2 (w.heap.size + 1) (.pointer (some ⟨p, 0, none⟩)) id t m r s k = wz at SF BF CF ⊢
  have e0 := SF.c0
  have e1 := SF.c1
  have e2 := SF.c2
  have e3 := SF.c3
  have e4 := SF.c4
  have e5 := SF.c5
  have e6 := SF.c6
  exact bodyPost_ret (v := .agg #[.pointer (some ⟨p, 0, none⟩), .int .i64 id, .int .i64 t, .int .i64 m, .int .i64 r, .int .i64 s, .int .i64 k]) (by simp [results, Try.results80, go_sem, e0, e1, e2, e3, e4, e5, e6]) rfl ⟨p, rfl, CF, BF⟩
end Go.Proofs.Ytbdfnkhmnglpbaa
