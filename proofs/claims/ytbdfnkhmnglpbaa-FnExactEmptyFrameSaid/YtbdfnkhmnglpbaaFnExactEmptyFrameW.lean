/-
  The walk of laws.FnExactEmptyFrame: at every input it returns true and writes nothing that was there.
-/
import Derived.Test.YtbdfnkhmnglpbaaRows
import Derived.Test.YtbdfnkhmnglpbaaEigC
import Derived.Test.YtbdfnkhmnglpbaaBase
import Derived.Test.YtbdfnkhmnglpbaaEigE
import Derived.Test.YtbdfnkhmnglpbaaFourA
import Derived.WalkKit
import Derived.ProofKit
import Derived.OpenShut
import Derived.ShutString
import Derived.ChangeOld
import Derived.Below
import Derived.Lib.SmallJoins
namespace Go.Proofs.Ytbdfnkhmnglpbaa.fnExactEmptyFrame
open Go.ChangeShapes Go.WideShapes Go.ChangeAt Go.RowKit Go.Joins
open Go.ChangeMaps (open_string shut_string)
set_option linter.unusedVariables false
set_option linter.unusedSimpArgs false in set_option maxHeartbeats 4000000 in set_option maxRecDepth 100000 in
theorem walk (s0_0 : Int) (s0_1 : Int) (s0_2 : Int) (s0_3 : Int) (s0_4 : Bool) (s1_0 : Int) (s1_1 : Int) (s1_2 : Int) (s1_3 : Int) (s1_4 : Int) (w : World) (w0_0 : (Lit.int .i64 s0_0).wf = true) (w0_1 : (Lit.int .i64 s0_1).wf = true) (w0_2 : (Lit.int .i64 s0_2).wf = true) (w0_3 : (Lit.int .i64 s0_3).wf = true) (w1_0 : (Lit.int .i64 s1_0).wf = true) (w1_1 : (Lit.int .i64 s1_1).wf = true) (w1_2 : (Lit.int .i64 s1_2).wf = true) (w1_3 : (Lit.int .i64 s1_3).wf = true) (w1_4 : (Lit.int .i64 s1_4).wf = true) :
    Calls Try.prog 17 #[.agg #[.int .i64 s0_0, .int .i64 s0_1, .int .i64 s0_2, .int .i64 s0_3, .bool s0_4], .agg #[.int .i64 s1_0, .int .i64 s1_1, .int .i64 s1_2, .int .i64 s1_3, .int .i64 s1_4]] w fun e w' => e = .returned (.bool true) ∧ Below w.heap.size w w' := by
  clear w0_0 w0_1 w0_2 w0_3 w1_0 w1_1 w1_2 w1_3 w1_4
  have hB0 : StateAt 64 ((w.alloc (.cells #[.int .i64 s0_0, .int .i64 s0_1, .int .i64 s0_2, .int .i64 s0_3, .bool s0_4] 75)).alloc (.cells #[.int .i64 s1_0, .int .i64 s1_1, .int .i64 s1_2, .int .i64 s1_3, .int .i64 s1_4] 64)) (w.heap.size + 1) s1_0 s1_1 s1_2 s1_3 s1_4 := by
    have h := StateAt.new (T := 64) (t := s1_0) (m := s1_1) (r := s1_2) (s := s1_3) (k := s1_4) (w.alloc (.cells #[.int .i64 s0_0, .int .i64 s0_1, .int .i64 s0_2, .int .i64 s0_3, .bool s0_4] 75))
    rw [show (w.alloc (.cells #[.int .i64 s0_0, .int .i64 s0_1, .int .i64 s0_2, .int .i64 s0_3, .bool s0_4] 75)).heap.size = w.heap.size + 1 from by simp] at h
    exact h
  have hA0 : DescAt 75 ((w.alloc (.cells #[.int .i64 s0_0, .int .i64 s0_1, .int .i64 s0_2, .int .i64 s0_3, .bool s0_4] 75)).alloc (.cells #[.int .i64 s1_0, .int .i64 s1_1, .int .i64 s1_2, .int .i64 s1_3, .int .i64 s1_4] 64)) w.heap.size s0_0 s0_1 s0_2 s0_3 s0_4 := (DescAt.new w).below (Below.alloc (Below.refl _ _) (Nat.le_refl _) _) (by simp)
  have hW0 : Below w.heap.size w ((w.alloc (.cells #[.int .i64 s0_0, .int .i64 s0_1, .int .i64 s0_2, .int .i64 s0_3, .bool s0_4] 75)).alloc (.cells #[.int .i64 s1_0, .int .i64 s1_1, .int .i64 s1_2, .int .i64 s1_3, .int .i64 s1_4] 64)) := ((Below.refl _ _).alloc (Nat.le_refl _) _).alloc (by simp) _
  have A0 := Lib.hid hA0; have B0 := Lib.hid hB0; have HW0 := Lib.hid hW0; clear hA0 hB0 hW0
  obtain ⟨⟨a, q, t, m, r, s, k, d⟩, z, hF⟩ : ∃ f z, emptyFrame ⟨s0_0, s0_1, s0_2, s0_3, s0_4⟩ s1_0 s1_1 s1_2 s1_3 s1_4 = (f, z) := ⟨_, _, rfl⟩
  have hdl : d.length ≤ 1048576 := by have h := emptyFrame_data ⟨s0_0, s0_1, s0_2, s0_3, s0_4⟩ s1_0 s1_1 s1_2 s1_3 s1_4; rw [hF] at h; simp only at h; omega
  have hn0 : (z != z) = false := by simp
  have HF := Lib.hid hF; clear hF
  have H : Held 2 ((w.alloc (.cells #[.int .i64 s0_0, .int .i64 s0_1, .int .i64 s0_2, .int .i64 s0_3, .bool s0_4] 75)).alloc (.cells #[.int .i64 s1_0, .int .i64 s1_1, .int .i64 s1_2, .int .i64 s1_3, .int .i64 s1_4] 64)) ((w.alloc (.cells #[.int .i64 s0_0, .int .i64 s0_1, .int .i64 s0_2, .int .i64 s0_3, .bool s0_4] 75)).alloc (.cells #[.int .i64 s1_0, .int .i64 s1_1, .int .i64 s1_2, .int .i64 s1_3, .int .i64 s1_4] 64)) [] := Held.start
  go_enter Try.func17, Try.ntmps17
  go_upto_region 1 with fail
  generalize (w.alloc (.cells #[.int .i64 s0_0, .int .i64 s0_1, .int .i64 s0_2, .int .i64 s0_3, .bool s0_4] 75)).alloc (.cells #[.int .i64 s1_0, .int .i64 s1_1, .int .i64 s1_2, .int .i64 s1_3, .int .i64 s1_4] 64) = wb at A0 B0 HW0 H ⊢
  go_upto_region 1 with fail
  go_cut [5, 6] (fun s7 s8 wx => ∃ wy, wy = wx ∧ ∃ J p8 c8, s7 = .pointer (some ⟨J, 0, none⟩) ∧ s8 = .int .i64 z ∧ LaidFr wb wy J a q t m r s k d p8 c8)
  case first =>
    have bb : Below wb.heap.size wb wb.drew := Below.drew (Below.refl _ _)
    refine wp_region_held_drew (S := fun w' => (w'.cell? ⟨w.heap.size, 0, none⟩ = some (.int .i64 s0_0) ∧ w'.cell? ⟨w.heap.size, 1, none⟩ = some (.int .i64 s0_1) ∧ w'.cell? ⟨w.heap.size, 2, none⟩ = some (.int .i64 s0_2) ∧ w'.cell? ⟨w.heap.size, 3, none⟩ = some (.int .i64 s0_3) ∧ w'.cell? ⟨w.heap.size, 4, none⟩ = some (.bool s0_4)) ∧ (w'.cell? ⟨(w.heap.size + 1), 0, none⟩ = some (.int .i64 s1_0) ∧ w'.cell? ⟨(w.heap.size + 1), 1, none⟩ = some (.int .i64 s1_1) ∧ w'.cell? ⟨(w.heap.size + 1), 2, none⟩ = some (.int .i64 s1_2) ∧ w'.cell? ⟨(w.heap.size + 1), 3, none⟩ = some (.int .i64 s1_3) ∧ w'.cell? ⟨(w.heap.size + 1), 4, none⟩ = some (.int .i64 s1_4))) (by kernel_rfl) (⟨desc_cells (A0.out.below (below_two H.below bb) A0.out.lt), state_cells8 (B0.out.below (below_two H.below bb) B0.out.lt)⟩) (fun hHeld => ?_)
    generalize wb.drew = wd at bb hHeld ⊢
    refine wpAnyH_take (i := 0) (v := ?_) rfl (by kernel_rfl) (by kernel_rfl) (by kernel_rfl) (fun _ _ _ h => h) (Or.inl ⟨by rfl, ?_⟩) (by assumption) ?_
    rotate_left
    · (intro w hSw; (try dsimp only at hSw); go_simp; (try with_reducible rfl))
    try simp only [List.getElem_toArray, List.getElem_cons_succ, List.getElem_cons_zero, Act.put, List.setIfInBounds_toArray, List.set_cons_zero, List.set_cons_succ]
    refine wpAnyH_take (i := 2) (v := ?_) rfl (by kernel_rfl) (by kernel_rfl) (by kernel_rfl) (fun _ _ _ h => h) (Or.inl ⟨by rfl, ?_⟩) (by assumption) ?_
    rotate_left
    · (intro w hSw; (try dsimp only at hSw); go_simp; (try with_reducible rfl))
    try simp only [List.getElem_toArray, List.getElem_cons_succ, List.getElem_cons_zero, Act.put, List.setIfInBounds_toArray, List.set_cons_zero, List.set_cons_succ]
    refine wpAnyH_ready (rs := [1, 8]) (by kernel_rfl) (by simp) (AllReadyH.cons rfl (fun K hK => ?_) (AllReadyH.cons rfl (fun K hK => ?_) AllReadyH.nil))
    · go_simp
      refine (toDescriptor_any _ _ _ _ _ _).mono ?_
      rintro e wa ⟨rfl, ba⟩
      replace bb := below_two bb ba
      clear ba
      go_wp2_with fail
      refine hK.out _ _ ?_ (fun hHeld => ?_)
      · exact ⟨desc_cells (A0.out.below (below_two H.below bb) A0.out.lt), state_cells8 (B0.out.below (below_two H.below bb) B0.out.lt)⟩
      clear hK K
      try simp only [List.getElem_toArray, List.getElem_cons_succ, List.getElem_cons_zero, Act.put, List.setIfInBounds_toArray, List.set_cons_zero, List.set_cons_succ]
      refine wpAnyH_ready (rs := [3, 8]) (by kernel_rfl) (by simp) (AllReadyH.cons rfl (fun K hK => ?_) (AllReadyH.cons rfl (fun K hK => ?_) AllReadyH.nil))
      · go_simp
        refine (toState_any _ _ _ _ _ _).mono ?_
        rintro e wc ⟨rfl, bc⟩
        replace bb := below_two bb bc
        clear bc
        go_wp2_with fail
        refine hK.out _ _ ?_ (fun hHeld => ?_)
        · exact ⟨desc_cells (A0.out.below (below_two H.below bb) A0.out.lt), state_cells8 (B0.out.below (below_two H.below bb) B0.out.lt)⟩
        clear hK K
        try simp only [List.getElem_toArray, List.getElem_cons_succ, List.getElem_cons_zero, Act.put, List.setIfInBounds_toArray, List.set_cons_zero, List.set_cons_succ]
        refine wpAnyH_ready (rs := [4, 8]) (by kernel_rfl) (by simp) (AllReadyH.cons rfl (fun K hK => ?_) (AllReadyH.cons rfl (fun K hK => ?_) AllReadyH.nil))
        · go_simp
          refine (sEmptyFrame_any _ _ _ _ _ _ _ _ _ _ _).mono ?_
          intro e w8 h8
          rw [HF.out] at h8
          obtain ⟨p8, c8, rfl, o8, b8⟩ := h8
          simp only at o8 ⊢
          have O8 := o8.more bb.size
          replace bb := below_two bb b8
          clear o8 b8
          go_wp2_with fail
          refine hK.out _ _ ?_ (fun hHeld => ?_)
          · exact ⟨desc_cells (A0.out.below (below_two H.below bb) A0.out.lt), state_cells8 (B0.out.below (below_two H.below bb) B0.out.lt)⟩
          clear hK K
          try simp only [List.getElem_toArray, List.getElem_cons_succ, List.getElem_cons_zero, Act.put, List.setIfInBounds_toArray, List.set_cons_zero, List.set_cons_succ]
          refine wpAnyH_take (i := 5) (v := ?_) rfl (by kernel_rfl) (by kernel_rfl) (by kernel_rfl) (fun _ _ _ h => h) (Or.inl ⟨by rfl, ?_⟩) (by assumption) ?_
          rotate_left
          · (intro w hSw; (try dsimp only at hSw); go_simp; (try with_reducible rfl))
          try simp only [List.getElem_toArray, List.getElem_cons_succ, List.getElem_cons_zero, Act.put, List.setIfInBounds_toArray, List.set_cons_zero, List.set_cons_succ]
          refine wpAnyH_take (i := 6) (v := ?_) rfl (by kernel_rfl) (by kernel_rfl) (by kernel_rfl) (fun _ _ _ h => h) (Or.inl ⟨by rfl, ?_⟩) (by assumption) ?_
          rotate_left
          · (intro w hSw; (try dsimp only at hSw); go_simp; (try with_reducible rfl))
          try simp only [List.getElem_toArray, List.getElem_cons_succ, List.getElem_cons_zero, Act.put, List.setIfInBounds_toArray, List.set_cons_zero, List.set_cons_succ]
          refine wpAnyH_take (i := 7) (v := ?_) rfl (by kernel_rfl) (by kernel_rfl) (by kernel_rfl) (fun _ _ _ h => h) (Or.inl ⟨by rfl, ?_⟩) (by assumption) ?_
          rotate_left
          · (intro w hSw; (try dsimp only at hSw); go_simp; (try with_reducible rfl))
          try simp only [List.getElem_toArray, List.getElem_cons_succ, List.getElem_cons_zero, Act.put, List.setIfInBounds_toArray, List.set_cons_zero, List.set_cons_succ]
          refine wpAnyH_ready (rs := [8]) (by kernel_rfl) (by simp) (AllReadyH.cons rfl (fun K hK => ?_) AllReadyH.nil)
          go_simp
          have bal := Below.alloc (Below.refl w8.heap.size w8) (Nat.le_refl _) (.cells #[.int .i64 0, .int .i64 0, .int .i64 0, .int .i64 0, .int .i64 0, .int .i64 0, .int .i64 0, .slice none 0 0] 28)
          have ZJ := FrameAt.new (T := 28) (a := 0) (q := 0) (t := 0) (m := 0) (r := 0) (s := 0) (k := 0) (v := .slice none 0 0) w8
          have hJ : wb.heap.size ≤ w8.heap.size := bb.size
          have hn := under8 O8
          replace O8 := O8.below bal
          replace bb := below_two bb bal
          clear bal
          obtain ⟨J, eJ⟩ : ∃ J, J = w8.heap.size := ⟨_, rfl⟩
          rw [← eJ] at ZJ hJ hn ⊢
          clear eJ
          generalize w8.alloc (.cells #[.int .i64 0, .int .i64 0, .int .i64 0, .int .i64 0, .int .i64 0, .int .i64 0, .int .i64 0, .slice none 0 0] 28) = wl at ZJ bb O8 ⊢
          refine hK.out _ _ ?_ (fun hHeld => ?_)
          · exact ⟨desc_cells (A0.out.below (below_two H.below bb) A0.out.lt), state_cells8 (B0.out.below (below_two H.below bb) B0.out.lt)⟩
          clear hK K
          try simp only [List.getElem_toArray, List.getElem_cons_succ, List.getElem_cons_zero, Act.put, List.setIfInBounds_toArray, List.set_cons_zero, List.set_cons_succ]
          have rc0 := ZJ.c0
          have rc1 := ZJ.c1
          have rc2 := ZJ.c2
          have rc3 := ZJ.c3
          have rc4 := ZJ.c4
          have rc5 := ZJ.c5
          have rc6 := ZJ.c6
          have rc7 := ZJ.c7
          have rf0 := ZJ.f 0
          have rf1 := ZJ.f 1
          have rf2 := ZJ.f 2
          have rf3 := ZJ.f 3
          have rf4 := ZJ.f 4
          have rf5 := ZJ.f 5
          have rf6 := ZJ.f 6
          have rf7 := ZJ.f 7
          refine wpAnyH_ready (rs := [9]) (by kernel_rfl) (by simp) (AllReadyH.cons rfl (fun K hK => ?_) AllReadyH.nil)
          go_simp
          have LF := laid_fr (a := a) (q := q) (t := t) (m := m) (r := r) (s := s) (k := k) ZJ O8 hn hJ bb
          clear rc0 rf0 rc1 rf1 rc2 rf2 rc3 rf3 rc4 rf4 rc5 rf5 rc6 rf6 rc7 rf7
          refine hK.out _ _ ?_ (fun hHeld => ?_)
          · exact ⟨desc_cells (A0.out.below (below_two H.below LF.2.2.2.2) A0.out.lt), state_cells8 (B0.out.below (below_two H.below LF.2.2.2.2) B0.out.lt)⟩
          clear hK K
          try simp only [List.getElem_toArray, List.getElem_cons_succ, List.getElem_cons_zero, Act.put, List.setIfInBounds_toArray, List.set_cons_zero, List.set_cons_succ]
          refine wpAnyH_take (i := 10) (v := ?_) rfl (by kernel_rfl) (by kernel_rfl) (by kernel_rfl) (fun _ _ _ h => h) (Or.inl ⟨by rfl, ?_⟩) (by assumption) ?_
          rotate_left
          · (intro w hSw; (try dsimp only at hSw); go_simp; (try with_reducible rfl))
          try simp only [List.getElem_toArray, List.getElem_cons_succ, List.getElem_cons_zero, Act.put, List.setIfInBounds_toArray, List.set_cons_zero, List.set_cons_succ]
          refine wpAnyH_done (by kernel_rfl) ?_ _
          go_wp2_with fail
          go_meet
          exact ⟨_, rfl, J, p8, c8, rfl, rfl, LF⟩
        · go_simp
          have bal := Below.alloc (Below.refl wc.heap.size wc) (Nat.le_refl _) (.cells #[.int .i64 0, .int .i64 0, .int .i64 0, .int .i64 0, .int .i64 0, .int .i64 0, .int .i64 0, .slice none 0 0] 28)
          have ZJ := FrameAt.new (T := 28) (a := 0) (q := 0) (t := 0) (m := 0) (r := 0) (s := 0) (k := 0) (v := .slice none 0 0) wc
          have hJ : wb.heap.size ≤ wc.heap.size := bb.size
          replace bb := below_two bb bal
          clear bal
          obtain ⟨J, eJ⟩ : ∃ J, J = wc.heap.size := ⟨_, rfl⟩
          rw [← eJ] at ZJ hJ ⊢
          clear eJ
          generalize wc.alloc (.cells #[.int .i64 0, .int .i64 0, .int .i64 0, .int .i64 0, .int .i64 0, .int .i64 0, .int .i64 0, .slice none 0 0] 28) = wl at ZJ bb ⊢
          refine hK.out _ _ ?_ (fun hHeld => ?_)
          · exact ⟨desc_cells (A0.out.below (below_two H.below bb) A0.out.lt), state_cells8 (B0.out.below (below_two H.below bb) B0.out.lt)⟩
          clear hK K
          try simp only [List.getElem_toArray, List.getElem_cons_succ, List.getElem_cons_zero, Act.put, List.setIfInBounds_toArray, List.set_cons_zero, List.set_cons_succ]
          refine wpAnyH_ready (rs := [4]) (by kernel_rfl) (by simp) (AllReadyH.cons rfl (fun K hK => ?_) AllReadyH.nil)
          go_simp
          refine (sEmptyFrame_any _ _ _ _ _ _ _ _ _ _ _).mono ?_
          intro e w8 h8
          rw [HF.out] at h8
          obtain ⟨p8, c8, rfl, o8, b8⟩ := h8
          simp only at o8 ⊢
          have hn := above8 o8 ZJ.lt
          replace ZJ := ZJ.below b8 ZJ.lt
          have O8 := o8.more bb.size
          replace bb := below_two bb b8
          clear o8 b8
          go_wp2_with fail
          refine hK.out _ _ ?_ (fun hHeld => ?_)
          · exact ⟨desc_cells (A0.out.below (below_two H.below bb) A0.out.lt), state_cells8 (B0.out.below (below_two H.below bb) B0.out.lt)⟩
          clear hK K
          try simp only [List.getElem_toArray, List.getElem_cons_succ, List.getElem_cons_zero, Act.put, List.setIfInBounds_toArray, List.set_cons_zero, List.set_cons_succ]
          refine wpAnyH_take (i := 5) (v := ?_) rfl (by kernel_rfl) (by kernel_rfl) (by kernel_rfl) (fun _ _ _ h => h) (Or.inl ⟨by rfl, ?_⟩) (by assumption) ?_
          rotate_left
          · (intro w hSw; (try dsimp only at hSw); go_simp; (try with_reducible rfl))
          try simp only [List.getElem_toArray, List.getElem_cons_succ, List.getElem_cons_zero, Act.put, List.setIfInBounds_toArray, List.set_cons_zero, List.set_cons_succ]
          refine wpAnyH_take (i := 6) (v := ?_) rfl (by kernel_rfl) (by kernel_rfl) (by kernel_rfl) (fun _ _ _ h => h) (Or.inl ⟨by rfl, ?_⟩) (by assumption) ?_
          rotate_left
          · (intro w hSw; (try dsimp only at hSw); go_simp; (try with_reducible rfl))
          try simp only [List.getElem_toArray, List.getElem_cons_succ, List.getElem_cons_zero, Act.put, List.setIfInBounds_toArray, List.set_cons_zero, List.set_cons_succ]
          refine wpAnyH_take (i := 7) (v := ?_) rfl (by kernel_rfl) (by kernel_rfl) (by kernel_rfl) (fun _ _ _ h => h) (Or.inl ⟨by rfl, ?_⟩) (by assumption) ?_
          rotate_left
          · (intro w hSw; (try dsimp only at hSw); go_simp; (try with_reducible rfl))
          try simp only [List.getElem_toArray, List.getElem_cons_succ, List.getElem_cons_zero, Act.put, List.setIfInBounds_toArray, List.set_cons_zero, List.set_cons_succ]
          have rc0 := ZJ.c0
          have rc1 := ZJ.c1
          have rc2 := ZJ.c2
          have rc3 := ZJ.c3
          have rc4 := ZJ.c4
          have rc5 := ZJ.c5
          have rc6 := ZJ.c6
          have rc7 := ZJ.c7
          have rf0 := ZJ.f 0
          have rf1 := ZJ.f 1
          have rf2 := ZJ.f 2
          have rf3 := ZJ.f 3
          have rf4 := ZJ.f 4
          have rf5 := ZJ.f 5
          have rf6 := ZJ.f 6
          have rf7 := ZJ.f 7
          refine wpAnyH_ready (rs := [9]) (by kernel_rfl) (by simp) (AllReadyH.cons rfl (fun K hK => ?_) AllReadyH.nil)
          go_simp
          have LF := laid_fr (a := a) (q := q) (t := t) (m := m) (r := r) (s := s) (k := k) ZJ O8 hn hJ bb
          clear rc0 rf0 rc1 rf1 rc2 rf2 rc3 rf3 rc4 rf4 rc5 rf5 rc6 rf6 rc7 rf7
          refine hK.out _ _ ?_ (fun hHeld => ?_)
          · exact ⟨desc_cells (A0.out.below (below_two H.below LF.2.2.2.2) A0.out.lt), state_cells8 (B0.out.below (below_two H.below LF.2.2.2.2) B0.out.lt)⟩
          clear hK K
          try simp only [List.getElem_toArray, List.getElem_cons_succ, List.getElem_cons_zero, Act.put, List.setIfInBounds_toArray, List.set_cons_zero, List.set_cons_succ]
          refine wpAnyH_take (i := 10) (v := ?_) rfl (by kernel_rfl) (by kernel_rfl) (by kernel_rfl) (fun _ _ _ h => h) (Or.inl ⟨by rfl, ?_⟩) (by assumption) ?_
          rotate_left
          · (intro w hSw; (try dsimp only at hSw); go_simp; (try with_reducible rfl))
          try simp only [List.getElem_toArray, List.getElem_cons_succ, List.getElem_cons_zero, Act.put, List.setIfInBounds_toArray, List.set_cons_zero, List.set_cons_succ]
          refine wpAnyH_done (by kernel_rfl) ?_ _
          go_wp2_with fail
          go_meet
          exact ⟨_, rfl, J, p8, c8, rfl, rfl, LF⟩
      · go_simp
        have bal := Below.alloc (Below.refl wa.heap.size wa) (Nat.le_refl _) (.cells #[.int .i64 0, .int .i64 0, .int .i64 0, .int .i64 0, .int .i64 0, .int .i64 0, .int .i64 0, .slice none 0 0] 28)
        have ZJ := FrameAt.new (T := 28) (a := 0) (q := 0) (t := 0) (m := 0) (r := 0) (s := 0) (k := 0) (v := .slice none 0 0) wa
        have hJ : wb.heap.size ≤ wa.heap.size := bb.size
        replace bb := below_two bb bal
        clear bal
        obtain ⟨J, eJ⟩ : ∃ J, J = wa.heap.size := ⟨_, rfl⟩
        rw [← eJ] at ZJ hJ ⊢
        clear eJ
        generalize wa.alloc (.cells #[.int .i64 0, .int .i64 0, .int .i64 0, .int .i64 0, .int .i64 0, .int .i64 0, .int .i64 0, .slice none 0 0] 28) = wl at ZJ bb ⊢
        refine hK.out _ _ ?_ (fun hHeld => ?_)
        · exact ⟨desc_cells (A0.out.below (below_two H.below bb) A0.out.lt), state_cells8 (B0.out.below (below_two H.below bb) B0.out.lt)⟩
        clear hK K
        try simp only [List.getElem_toArray, List.getElem_cons_succ, List.getElem_cons_zero, Act.put, List.setIfInBounds_toArray, List.set_cons_zero, List.set_cons_succ]
        refine wpAnyH_ready (rs := [3]) (by kernel_rfl) (by simp) (AllReadyH.cons rfl (fun K hK => ?_) AllReadyH.nil)
        go_simp
        refine (toState_any _ _ _ _ _ _).mono ?_
        rintro e wc ⟨rfl, bc⟩
        replace ZJ := ZJ.below bc ZJ.lt
        replace bb := below_two bb bc
        clear bc
        go_wp2_with fail
        refine hK.out _ _ ?_ (fun hHeld => ?_)
        · exact ⟨desc_cells (A0.out.below (below_two H.below bb) A0.out.lt), state_cells8 (B0.out.below (below_two H.below bb) B0.out.lt)⟩
        clear hK K
        try simp only [List.getElem_toArray, List.getElem_cons_succ, List.getElem_cons_zero, Act.put, List.setIfInBounds_toArray, List.set_cons_zero, List.set_cons_succ]
        refine wpAnyH_ready (rs := [4]) (by kernel_rfl) (by simp) (AllReadyH.cons rfl (fun K hK => ?_) AllReadyH.nil)
        go_simp
        refine (sEmptyFrame_any _ _ _ _ _ _ _ _ _ _ _).mono ?_
        intro e w8 h8
        rw [HF.out] at h8
        obtain ⟨p8, c8, rfl, o8, b8⟩ := h8
        simp only at o8 ⊢
        have hn := above8 o8 ZJ.lt
        replace ZJ := ZJ.below b8 ZJ.lt
        have O8 := o8.more bb.size
        replace bb := below_two bb b8
        clear o8 b8
        go_wp2_with fail
        refine hK.out _ _ ?_ (fun hHeld => ?_)
        · exact ⟨desc_cells (A0.out.below (below_two H.below bb) A0.out.lt), state_cells8 (B0.out.below (below_two H.below bb) B0.out.lt)⟩
        clear hK K
        try simp only [List.getElem_toArray, List.getElem_cons_succ, List.getElem_cons_zero, Act.put, List.setIfInBounds_toArray, List.set_cons_zero, List.set_cons_succ]
        refine wpAnyH_take (i := 5) (v := ?_) rfl (by kernel_rfl) (by kernel_rfl) (by kernel_rfl) (fun _ _ _ h => h) (Or.inl ⟨by rfl, ?_⟩) (by assumption) ?_
        rotate_left
        · (intro w hSw; (try dsimp only at hSw); go_simp; (try with_reducible rfl))
        try simp only [List.getElem_toArray, List.getElem_cons_succ, List.getElem_cons_zero, Act.put, List.setIfInBounds_toArray, List.set_cons_zero, List.set_cons_succ]
        refine wpAnyH_take (i := 6) (v := ?_) rfl (by kernel_rfl) (by kernel_rfl) (by kernel_rfl) (fun _ _ _ h => h) (Or.inl ⟨by rfl, ?_⟩) (by assumption) ?_
        rotate_left
        · (intro w hSw; (try dsimp only at hSw); go_simp; (try with_reducible rfl))
        try simp only [List.getElem_toArray, List.getElem_cons_succ, List.getElem_cons_zero, Act.put, List.setIfInBounds_toArray, List.set_cons_zero, List.set_cons_succ]
        refine wpAnyH_take (i := 7) (v := ?_) rfl (by kernel_rfl) (by kernel_rfl) (by kernel_rfl) (fun _ _ _ h => h) (Or.inl ⟨by rfl, ?_⟩) (by assumption) ?_
        rotate_left
        · (intro w hSw; (try dsimp only at hSw); go_simp; (try with_reducible rfl))
        try simp only [List.getElem_toArray, List.getElem_cons_succ, List.getElem_cons_zero, Act.put, List.setIfInBounds_toArray, List.set_cons_zero, List.set_cons_succ]
        have rc0 := ZJ.c0
        have rc1 := ZJ.c1
        have rc2 := ZJ.c2
        have rc3 := ZJ.c3
        have rc4 := ZJ.c4
        have rc5 := ZJ.c5
        have rc6 := ZJ.c6
        have rc7 := ZJ.c7
        have rf0 := ZJ.f 0
        have rf1 := ZJ.f 1
        have rf2 := ZJ.f 2
        have rf3 := ZJ.f 3
        have rf4 := ZJ.f 4
        have rf5 := ZJ.f 5
        have rf6 := ZJ.f 6
        have rf7 := ZJ.f 7
        refine wpAnyH_ready (rs := [9]) (by kernel_rfl) (by simp) (AllReadyH.cons rfl (fun K hK => ?_) AllReadyH.nil)
        go_simp
        have LF := laid_fr (a := a) (q := q) (t := t) (m := m) (r := r) (s := s) (k := k) ZJ O8 hn hJ bb
        clear rc0 rf0 rc1 rf1 rc2 rf2 rc3 rf3 rc4 rf4 rc5 rf5 rc6 rf6 rc7 rf7
        refine hK.out _ _ ?_ (fun hHeld => ?_)
        · exact ⟨desc_cells (A0.out.below (below_two H.below LF.2.2.2.2) A0.out.lt), state_cells8 (B0.out.below (below_two H.below LF.2.2.2.2) B0.out.lt)⟩
        clear hK K
        try simp only [List.getElem_toArray, List.getElem_cons_succ, List.getElem_cons_zero, Act.put, List.setIfInBounds_toArray, List.set_cons_zero, List.set_cons_succ]
        refine wpAnyH_take (i := 10) (v := ?_) rfl (by kernel_rfl) (by kernel_rfl) (by kernel_rfl) (fun _ _ _ h => h) (Or.inl ⟨by rfl, ?_⟩) (by assumption) ?_
        rotate_left
        · (intro w hSw; (try dsimp only at hSw); go_simp; (try with_reducible rfl))
        try simp only [List.getElem_toArray, List.getElem_cons_succ, List.getElem_cons_zero, Act.put, List.setIfInBounds_toArray, List.set_cons_zero, List.set_cons_succ]
        refine wpAnyH_done (by kernel_rfl) ?_ _
        go_wp2_with fail
        go_meet
        exact ⟨_, rfl, J, p8, c8, rfl, rfl, LF⟩
    · go_simp
      have bal := Below.alloc (Below.refl wd.heap.size wd) (Nat.le_refl _) (.cells #[.int .i64 0, .int .i64 0, .int .i64 0, .int .i64 0, .int .i64 0, .int .i64 0, .int .i64 0, .slice none 0 0] 28)
      have ZJ := FrameAt.new (T := 28) (a := 0) (q := 0) (t := 0) (m := 0) (r := 0) (s := 0) (k := 0) (v := .slice none 0 0) wd
      have hJ : wb.heap.size ≤ wd.heap.size := bb.size
      replace bb := below_two bb bal
      clear bal
      obtain ⟨J, eJ⟩ : ∃ J, J = wd.heap.size := ⟨_, rfl⟩
      rw [← eJ] at ZJ hJ ⊢
      clear eJ
      generalize wd.alloc (.cells #[.int .i64 0, .int .i64 0, .int .i64 0, .int .i64 0, .int .i64 0, .int .i64 0, .int .i64 0, .slice none 0 0] 28) = wl at ZJ bb ⊢
      refine hK.out _ _ ?_ (fun hHeld => ?_)
      · exact ⟨desc_cells (A0.out.below (below_two H.below bb) A0.out.lt), state_cells8 (B0.out.below (below_two H.below bb) B0.out.lt)⟩
      clear hK K
      try simp only [List.getElem_toArray, List.getElem_cons_succ, List.getElem_cons_zero, Act.put, List.setIfInBounds_toArray, List.set_cons_zero, List.set_cons_succ]
      refine wpAnyH_ready (rs := [1]) (by kernel_rfl) (by simp) (AllReadyH.cons rfl (fun K hK => ?_) AllReadyH.nil)
      go_simp
      refine (toDescriptor_any _ _ _ _ _ _).mono ?_
      rintro e wa ⟨rfl, ba⟩
      replace ZJ := ZJ.below ba ZJ.lt
      replace bb := below_two bb ba
      clear ba
      go_wp2_with fail
      refine hK.out _ _ ?_ (fun hHeld => ?_)
      · exact ⟨desc_cells (A0.out.below (below_two H.below bb) A0.out.lt), state_cells8 (B0.out.below (below_two H.below bb) B0.out.lt)⟩
      clear hK K
      try simp only [List.getElem_toArray, List.getElem_cons_succ, List.getElem_cons_zero, Act.put, List.setIfInBounds_toArray, List.set_cons_zero, List.set_cons_succ]
      refine wpAnyH_ready (rs := [3]) (by kernel_rfl) (by simp) (AllReadyH.cons rfl (fun K hK => ?_) AllReadyH.nil)
      go_simp
      refine (toState_any _ _ _ _ _ _).mono ?_
      rintro e wc ⟨rfl, bc⟩
      replace ZJ := ZJ.below bc ZJ.lt
      replace bb := below_two bb bc
      clear bc
      go_wp2_with fail
      refine hK.out _ _ ?_ (fun hHeld => ?_)
      · exact ⟨desc_cells (A0.out.below (below_two H.below bb) A0.out.lt), state_cells8 (B0.out.below (below_two H.below bb) B0.out.lt)⟩
      clear hK K
      try simp only [List.getElem_toArray, List.getElem_cons_succ, List.getElem_cons_zero, Act.put, List.setIfInBounds_toArray, List.set_cons_zero, List.set_cons_succ]
      refine wpAnyH_ready (rs := [4]) (by kernel_rfl) (by simp) (AllReadyH.cons rfl (fun K hK => ?_) AllReadyH.nil)
      go_simp
      refine (sEmptyFrame_any _ _ _ _ _ _ _ _ _ _ _).mono ?_
      intro e w8 h8
      rw [HF.out] at h8
      obtain ⟨p8, c8, rfl, o8, b8⟩ := h8
      simp only at o8 ⊢
      have hn := above8 o8 ZJ.lt
      replace ZJ := ZJ.below b8 ZJ.lt
      have O8 := o8.more bb.size
      replace bb := below_two bb b8
      clear o8 b8
      go_wp2_with fail
      refine hK.out _ _ ?_ (fun hHeld => ?_)
      · exact ⟨desc_cells (A0.out.below (below_two H.below bb) A0.out.lt), state_cells8 (B0.out.below (below_two H.below bb) B0.out.lt)⟩
      clear hK K
      try simp only [List.getElem_toArray, List.getElem_cons_succ, List.getElem_cons_zero, Act.put, List.setIfInBounds_toArray, List.set_cons_zero, List.set_cons_succ]
      refine wpAnyH_take (i := 5) (v := ?_) rfl (by kernel_rfl) (by kernel_rfl) (by kernel_rfl) (fun _ _ _ h => h) (Or.inl ⟨by rfl, ?_⟩) (by assumption) ?_
      rotate_left
      · (intro w hSw; (try dsimp only at hSw); go_simp; (try with_reducible rfl))
      try simp only [List.getElem_toArray, List.getElem_cons_succ, List.getElem_cons_zero, Act.put, List.setIfInBounds_toArray, List.set_cons_zero, List.set_cons_succ]
      refine wpAnyH_take (i := 6) (v := ?_) rfl (by kernel_rfl) (by kernel_rfl) (by kernel_rfl) (fun _ _ _ h => h) (Or.inl ⟨by rfl, ?_⟩) (by assumption) ?_
      rotate_left
      · (intro w hSw; (try dsimp only at hSw); go_simp; (try with_reducible rfl))
      try simp only [List.getElem_toArray, List.getElem_cons_succ, List.getElem_cons_zero, Act.put, List.setIfInBounds_toArray, List.set_cons_zero, List.set_cons_succ]
      refine wpAnyH_take (i := 7) (v := ?_) rfl (by kernel_rfl) (by kernel_rfl) (by kernel_rfl) (fun _ _ _ h => h) (Or.inl ⟨by rfl, ?_⟩) (by assumption) ?_
      rotate_left
      · (intro w hSw; (try dsimp only at hSw); go_simp; (try with_reducible rfl))
      try simp only [List.getElem_toArray, List.getElem_cons_succ, List.getElem_cons_zero, Act.put, List.setIfInBounds_toArray, List.set_cons_zero, List.set_cons_succ]
      have rc0 := ZJ.c0
      have rc1 := ZJ.c1
      have rc2 := ZJ.c2
      have rc3 := ZJ.c3
      have rc4 := ZJ.c4
      have rc5 := ZJ.c5
      have rc6 := ZJ.c6
      have rc7 := ZJ.c7
      have rf0 := ZJ.f 0
      have rf1 := ZJ.f 1
      have rf2 := ZJ.f 2
      have rf3 := ZJ.f 3
      have rf4 := ZJ.f 4
      have rf5 := ZJ.f 5
      have rf6 := ZJ.f 6
      have rf7 := ZJ.f 7
      refine wpAnyH_ready (rs := [9]) (by kernel_rfl) (by simp) (AllReadyH.cons rfl (fun K hK => ?_) AllReadyH.nil)
      go_simp
      have LF := laid_fr (a := a) (q := q) (t := t) (m := m) (r := r) (s := s) (k := k) ZJ O8 hn hJ bb
      clear rc0 rf0 rc1 rf1 rc2 rf2 rc3 rf3 rc4 rf4 rc5 rf5 rc6 rf6 rc7 rf7
      refine hK.out _ _ ?_ (fun hHeld => ?_)
      · exact ⟨desc_cells (A0.out.below (below_two H.below LF.2.2.2.2) A0.out.lt), state_cells8 (B0.out.below (below_two H.below LF.2.2.2.2) B0.out.lt)⟩
      clear hK K
      try simp only [List.getElem_toArray, List.getElem_cons_succ, List.getElem_cons_zero, Act.put, List.setIfInBounds_toArray, List.set_cons_zero, List.set_cons_succ]
      refine wpAnyH_take (i := 10) (v := ?_) rfl (by kernel_rfl) (by kernel_rfl) (by kernel_rfl) (fun _ _ _ h => h) (Or.inl ⟨by rfl, ?_⟩) (by assumption) ?_
      rotate_left
      · (intro w hSw; (try dsimp only at hSw); go_simp; (try with_reducible rfl))
      try simp only [List.getElem_toArray, List.getElem_cons_succ, List.getElem_cons_zero, Act.put, List.setIfInBounds_toArray, List.set_cons_zero, List.set_cons_succ]
      refine wpAnyH_done (by kernel_rfl) ?_ _
      go_wp2_with fail
      go_meet
      exact ⟨_, rfl, J, p8, c8, rfl, rfl, LF⟩
  case rest =>
    obtain ⟨w1, rfl, bW, p1, c1, rfl, rfl, W, o1, hnW, hjj1, b1⟩ := hcut
    replace H := H.make o1 b1
    clear o1 b1 hjj1
    go_upto_region 2 with fail
    go_cut [7, 8] (fun s7 s8 wx => ∃ wy, wy = wx ∧ ∃ J p8 c8, s7 = .pointer (some ⟨J, 0, none⟩) ∧ s8 = .int .i64 z ∧ LaidFr w1 wy J a q t m r s k d p8 c8)
    case first =>
      have bb : Below w1.heap.size w1 w1.drew := Below.drew (Below.refl _ _)
      refine wp_region_held_drew (S := fun w' => (w'.cell? ⟨w.heap.size, 0, none⟩ = some (.int .i64 s0_0) ∧ w'.cell? ⟨w.heap.size, 1, none⟩ = some (.int .i64 s0_1) ∧ w'.cell? ⟨w.heap.size, 2, none⟩ = some (.int .i64 s0_2) ∧ w'.cell? ⟨w.heap.size, 3, none⟩ = some (.int .i64 s0_3) ∧ w'.cell? ⟨w.heap.size, 4, none⟩ = some (.bool s0_4)) ∧ (w'.cell? ⟨(w.heap.size + 1), 0, none⟩ = some (.int .i64 s1_0) ∧ w'.cell? ⟨(w.heap.size + 1), 1, none⟩ = some (.int .i64 s1_1) ∧ w'.cell? ⟨(w.heap.size + 1), 2, none⟩ = some (.int .i64 s1_2) ∧ w'.cell? ⟨(w.heap.size + 1), 3, none⟩ = some (.int .i64 s1_3) ∧ w'.cell? ⟨(w.heap.size + 1), 4, none⟩ = some (.int .i64 s1_4))) (by kernel_rfl) (⟨desc_cells (A0.out.below (below_two H.below bb) A0.out.lt), state_cells8 (B0.out.below (below_two H.below bb) B0.out.lt)⟩) (fun hHeld => ?_)
      generalize w1.drew = wd at bb hHeld ⊢
      refine wpAnyH_take (i := 0) (v := ?_) rfl (by kernel_rfl) (by kernel_rfl) (by kernel_rfl) (fun _ _ _ h => h) (Or.inl ⟨by rfl, ?_⟩) (by assumption) ?_
      rotate_left
      · (intro w hSw; (try dsimp only at hSw); go_simp; (try with_reducible rfl))
      try simp only [List.getElem_toArray, List.getElem_cons_succ, List.getElem_cons_zero, Act.put, List.setIfInBounds_toArray, List.set_cons_zero, List.set_cons_succ]
      refine wpAnyH_take (i := 2) (v := ?_) rfl (by kernel_rfl) (by kernel_rfl) (by kernel_rfl) (fun _ _ _ h => h) (Or.inl ⟨by rfl, ?_⟩) (by assumption) ?_
      rotate_left
      · (intro w hSw; (try dsimp only at hSw); go_simp; (try with_reducible rfl))
      try simp only [List.getElem_toArray, List.getElem_cons_succ, List.getElem_cons_zero, Act.put, List.setIfInBounds_toArray, List.set_cons_zero, List.set_cons_succ]
      refine wpAnyH_ready (rs := [1, 8]) (by kernel_rfl) (by simp) (AllReadyH.cons rfl (fun K hK => ?_) (AllReadyH.cons rfl (fun K hK => ?_) AllReadyH.nil))
      · go_simp
        refine (toDescriptor_any _ _ _ _ _ _).mono ?_
        rintro e wa ⟨rfl, ba⟩
        replace bb := below_two bb ba
        clear ba
        go_wp2_with fail
        refine hK.out _ _ ?_ (fun hHeld => ?_)
        · exact ⟨desc_cells (A0.out.below (below_two H.below bb) A0.out.lt), state_cells8 (B0.out.below (below_two H.below bb) B0.out.lt)⟩
        clear hK K
        try simp only [List.getElem_toArray, List.getElem_cons_succ, List.getElem_cons_zero, Act.put, List.setIfInBounds_toArray, List.set_cons_zero, List.set_cons_succ]
        refine wpAnyH_ready (rs := [3, 8]) (by kernel_rfl) (by simp) (AllReadyH.cons rfl (fun K hK => ?_) (AllReadyH.cons rfl (fun K hK => ?_) AllReadyH.nil))
        · go_simp
          refine (toState_any _ _ _ _ _ _).mono ?_
          rintro e wc ⟨rfl, bc⟩
          replace bb := below_two bb bc
          clear bc
          go_wp2_with fail
          refine hK.out _ _ ?_ (fun hHeld => ?_)
          · exact ⟨desc_cells (A0.out.below (below_two H.below bb) A0.out.lt), state_cells8 (B0.out.below (below_two H.below bb) B0.out.lt)⟩
          clear hK K
          try simp only [List.getElem_toArray, List.getElem_cons_succ, List.getElem_cons_zero, Act.put, List.setIfInBounds_toArray, List.set_cons_zero, List.set_cons_succ]
          refine wpAnyH_ready (rs := [4, 8]) (by kernel_rfl) (by simp) (AllReadyH.cons rfl (fun K hK => ?_) (AllReadyH.cons rfl (fun K hK => ?_) AllReadyH.nil))
          · go_simp
            refine (emptyFrame_any _ _ _ _ _ _ _ _ _ _ _).mono ?_
            intro e w8 h8
            rw [HF.out] at h8
            obtain ⟨p8, c8, rfl, o8, b8⟩ := h8
            simp only at o8 ⊢
            have O8 := o8.more bb.size
            replace bb := below_two bb b8
            clear o8 b8
            go_wp2_with fail
            refine hK.out _ _ ?_ (fun hHeld => ?_)
            · exact ⟨desc_cells (A0.out.below (below_two H.below bb) A0.out.lt), state_cells8 (B0.out.below (below_two H.below bb) B0.out.lt)⟩
            clear hK K
            try simp only [List.getElem_toArray, List.getElem_cons_succ, List.getElem_cons_zero, Act.put, List.setIfInBounds_toArray, List.set_cons_zero, List.set_cons_succ]
            refine wpAnyH_take (i := 5) (v := ?_) rfl (by kernel_rfl) (by kernel_rfl) (by kernel_rfl) (fun _ _ _ h => h) (Or.inl ⟨by rfl, ?_⟩) (by assumption) ?_
            rotate_left
            · (intro w hSw; (try dsimp only at hSw); go_simp; (try with_reducible rfl))
            try simp only [List.getElem_toArray, List.getElem_cons_succ, List.getElem_cons_zero, Act.put, List.setIfInBounds_toArray, List.set_cons_zero, List.set_cons_succ]
            refine wpAnyH_take (i := 6) (v := ?_) rfl (by kernel_rfl) (by kernel_rfl) (by kernel_rfl) (fun _ _ _ h => h) (Or.inl ⟨by rfl, ?_⟩) (by assumption) ?_
            rotate_left
            · (intro w hSw; (try dsimp only at hSw); go_simp; (try with_reducible rfl))
            try simp only [List.getElem_toArray, List.getElem_cons_succ, List.getElem_cons_zero, Act.put, List.setIfInBounds_toArray, List.set_cons_zero, List.set_cons_succ]
            refine wpAnyH_take (i := 7) (v := ?_) rfl (by kernel_rfl) (by kernel_rfl) (by kernel_rfl) (fun _ _ _ h => h) (Or.inl ⟨by rfl, ?_⟩) (by assumption) ?_
            rotate_left
            · (intro w hSw; (try dsimp only at hSw); go_simp; (try with_reducible rfl))
            try simp only [List.getElem_toArray, List.getElem_cons_succ, List.getElem_cons_zero, Act.put, List.setIfInBounds_toArray, List.set_cons_zero, List.set_cons_succ]
            refine wpAnyH_ready (rs := [8]) (by kernel_rfl) (by simp) (AllReadyH.cons rfl (fun K hK => ?_) AllReadyH.nil)
            go_simp
            have bal := Below.alloc (Below.refl w8.heap.size w8) (Nat.le_refl _) (.cells #[.int .i64 0, .int .i64 0, .int .i64 0, .int .i64 0, .int .i64 0, .int .i64 0, .int .i64 0, .slice none 0 0] 28)
            have ZJ := FrameAt.new (T := 28) (a := 0) (q := 0) (t := 0) (m := 0) (r := 0) (s := 0) (k := 0) (v := .slice none 0 0) w8
            have hJ : w1.heap.size ≤ w8.heap.size := bb.size
            have hn := under8 O8
            replace O8 := O8.below bal
            replace bb := below_two bb bal
            clear bal
            obtain ⟨J, eJ⟩ : ∃ J, J = w8.heap.size := ⟨_, rfl⟩
            rw [← eJ] at ZJ hJ hn ⊢
            clear eJ
            generalize w8.alloc (.cells #[.int .i64 0, .int .i64 0, .int .i64 0, .int .i64 0, .int .i64 0, .int .i64 0, .int .i64 0, .slice none 0 0] 28) = wl at ZJ bb O8 ⊢
            refine hK.out _ _ ?_ (fun hHeld => ?_)
            · exact ⟨desc_cells (A0.out.below (below_two H.below bb) A0.out.lt), state_cells8 (B0.out.below (below_two H.below bb) B0.out.lt)⟩
            clear hK K
            try simp only [List.getElem_toArray, List.getElem_cons_succ, List.getElem_cons_zero, Act.put, List.setIfInBounds_toArray, List.set_cons_zero, List.set_cons_succ]
            have rc0 := ZJ.c0
            have rc1 := ZJ.c1
            have rc2 := ZJ.c2
            have rc3 := ZJ.c3
            have rc4 := ZJ.c4
            have rc5 := ZJ.c5
            have rc6 := ZJ.c6
            have rc7 := ZJ.c7
            have rf0 := ZJ.f 0
            have rf1 := ZJ.f 1
            have rf2 := ZJ.f 2
            have rf3 := ZJ.f 3
            have rf4 := ZJ.f 4
            have rf5 := ZJ.f 5
            have rf6 := ZJ.f 6
            have rf7 := ZJ.f 7
            refine wpAnyH_ready (rs := [9]) (by kernel_rfl) (by simp) (AllReadyH.cons rfl (fun K hK => ?_) AllReadyH.nil)
            go_simp
            have LF := laid_fr (a := a) (q := q) (t := t) (m := m) (r := r) (s := s) (k := k) ZJ O8 hn hJ bb
            clear rc0 rf0 rc1 rf1 rc2 rf2 rc3 rf3 rc4 rf4 rc5 rf5 rc6 rf6 rc7 rf7
            refine hK.out _ _ ?_ (fun hHeld => ?_)
            · exact ⟨desc_cells (A0.out.below (below_two H.below LF.2.2.2.2) A0.out.lt), state_cells8 (B0.out.below (below_two H.below LF.2.2.2.2) B0.out.lt)⟩
            clear hK K
            try simp only [List.getElem_toArray, List.getElem_cons_succ, List.getElem_cons_zero, Act.put, List.setIfInBounds_toArray, List.set_cons_zero, List.set_cons_succ]
            refine wpAnyH_take (i := 10) (v := ?_) rfl (by kernel_rfl) (by kernel_rfl) (by kernel_rfl) (fun _ _ _ h => h) (Or.inl ⟨by rfl, ?_⟩) (by assumption) ?_
            rotate_left
            · (intro w hSw; (try dsimp only at hSw); go_simp; (try with_reducible rfl))
            try simp only [List.getElem_toArray, List.getElem_cons_succ, List.getElem_cons_zero, Act.put, List.setIfInBounds_toArray, List.set_cons_zero, List.set_cons_succ]
            refine wpAnyH_done (by kernel_rfl) ?_ _
            go_wp2_with fail
            go_meet
            exact ⟨_, rfl, J, p8, c8, rfl, rfl, LF⟩
          · go_simp
            have bal := Below.alloc (Below.refl wc.heap.size wc) (Nat.le_refl _) (.cells #[.int .i64 0, .int .i64 0, .int .i64 0, .int .i64 0, .int .i64 0, .int .i64 0, .int .i64 0, .slice none 0 0] 28)
            have ZJ := FrameAt.new (T := 28) (a := 0) (q := 0) (t := 0) (m := 0) (r := 0) (s := 0) (k := 0) (v := .slice none 0 0) wc
            have hJ : w1.heap.size ≤ wc.heap.size := bb.size
            replace bb := below_two bb bal
            clear bal
            obtain ⟨J, eJ⟩ : ∃ J, J = wc.heap.size := ⟨_, rfl⟩
            rw [← eJ] at ZJ hJ ⊢
            clear eJ
            generalize wc.alloc (.cells #[.int .i64 0, .int .i64 0, .int .i64 0, .int .i64 0, .int .i64 0, .int .i64 0, .int .i64 0, .slice none 0 0] 28) = wl at ZJ bb ⊢
            refine hK.out _ _ ?_ (fun hHeld => ?_)
            · exact ⟨desc_cells (A0.out.below (below_two H.below bb) A0.out.lt), state_cells8 (B0.out.below (below_two H.below bb) B0.out.lt)⟩
            clear hK K
            try simp only [List.getElem_toArray, List.getElem_cons_succ, List.getElem_cons_zero, Act.put, List.setIfInBounds_toArray, List.set_cons_zero, List.set_cons_succ]
            refine wpAnyH_ready (rs := [4]) (by kernel_rfl) (by simp) (AllReadyH.cons rfl (fun K hK => ?_) AllReadyH.nil)
            go_simp
            refine (emptyFrame_any _ _ _ _ _ _ _ _ _ _ _).mono ?_
            intro e w8 h8
            rw [HF.out] at h8
            obtain ⟨p8, c8, rfl, o8, b8⟩ := h8
            simp only at o8 ⊢
            have hn := above8 o8 ZJ.lt
            replace ZJ := ZJ.below b8 ZJ.lt
            have O8 := o8.more bb.size
            replace bb := below_two bb b8
            clear o8 b8
            go_wp2_with fail
            refine hK.out _ _ ?_ (fun hHeld => ?_)
            · exact ⟨desc_cells (A0.out.below (below_two H.below bb) A0.out.lt), state_cells8 (B0.out.below (below_two H.below bb) B0.out.lt)⟩
            clear hK K
            try simp only [List.getElem_toArray, List.getElem_cons_succ, List.getElem_cons_zero, Act.put, List.setIfInBounds_toArray, List.set_cons_zero, List.set_cons_succ]
            refine wpAnyH_take (i := 5) (v := ?_) rfl (by kernel_rfl) (by kernel_rfl) (by kernel_rfl) (fun _ _ _ h => h) (Or.inl ⟨by rfl, ?_⟩) (by assumption) ?_
            rotate_left
            · (intro w hSw; (try dsimp only at hSw); go_simp; (try with_reducible rfl))
            try simp only [List.getElem_toArray, List.getElem_cons_succ, List.getElem_cons_zero, Act.put, List.setIfInBounds_toArray, List.set_cons_zero, List.set_cons_succ]
            refine wpAnyH_take (i := 6) (v := ?_) rfl (by kernel_rfl) (by kernel_rfl) (by kernel_rfl) (fun _ _ _ h => h) (Or.inl ⟨by rfl, ?_⟩) (by assumption) ?_
            rotate_left
            · (intro w hSw; (try dsimp only at hSw); go_simp; (try with_reducible rfl))
            try simp only [List.getElem_toArray, List.getElem_cons_succ, List.getElem_cons_zero, Act.put, List.setIfInBounds_toArray, List.set_cons_zero, List.set_cons_succ]
            refine wpAnyH_take (i := 7) (v := ?_) rfl (by kernel_rfl) (by kernel_rfl) (by kernel_rfl) (fun _ _ _ h => h) (Or.inl ⟨by rfl, ?_⟩) (by assumption) ?_
            rotate_left
            · (intro w hSw; (try dsimp only at hSw); go_simp; (try with_reducible rfl))
            try simp only [List.getElem_toArray, List.getElem_cons_succ, List.getElem_cons_zero, Act.put, List.setIfInBounds_toArray, List.set_cons_zero, List.set_cons_succ]
            have rc0 := ZJ.c0
            have rc1 := ZJ.c1
            have rc2 := ZJ.c2
            have rc3 := ZJ.c3
            have rc4 := ZJ.c4
            have rc5 := ZJ.c5
            have rc6 := ZJ.c6
            have rc7 := ZJ.c7
            have rf0 := ZJ.f 0
            have rf1 := ZJ.f 1
            have rf2 := ZJ.f 2
            have rf3 := ZJ.f 3
            have rf4 := ZJ.f 4
            have rf5 := ZJ.f 5
            have rf6 := ZJ.f 6
            have rf7 := ZJ.f 7
            refine wpAnyH_ready (rs := [9]) (by kernel_rfl) (by simp) (AllReadyH.cons rfl (fun K hK => ?_) AllReadyH.nil)
            go_simp
            have LF := laid_fr (a := a) (q := q) (t := t) (m := m) (r := r) (s := s) (k := k) ZJ O8 hn hJ bb
            clear rc0 rf0 rc1 rf1 rc2 rf2 rc3 rf3 rc4 rf4 rc5 rf5 rc6 rf6 rc7 rf7
            refine hK.out _ _ ?_ (fun hHeld => ?_)
            · exact ⟨desc_cells (A0.out.below (below_two H.below LF.2.2.2.2) A0.out.lt), state_cells8 (B0.out.below (below_two H.below LF.2.2.2.2) B0.out.lt)⟩
            clear hK K
            try simp only [List.getElem_toArray, List.getElem_cons_succ, List.getElem_cons_zero, Act.put, List.setIfInBounds_toArray, List.set_cons_zero, List.set_cons_succ]
            refine wpAnyH_take (i := 10) (v := ?_) rfl (by kernel_rfl) (by kernel_rfl) (by kernel_rfl) (fun _ _ _ h => h) (Or.inl ⟨by rfl, ?_⟩) (by assumption) ?_
            rotate_left
            · (intro w hSw; (try dsimp only at hSw); go_simp; (try with_reducible rfl))
            try simp only [List.getElem_toArray, List.getElem_cons_succ, List.getElem_cons_zero, Act.put, List.setIfInBounds_toArray, List.set_cons_zero, List.set_cons_succ]
            refine wpAnyH_done (by kernel_rfl) ?_ _
            go_wp2_with fail
            go_meet
            exact ⟨_, rfl, J, p8, c8, rfl, rfl, LF⟩
        · go_simp
          have bal := Below.alloc (Below.refl wa.heap.size wa) (Nat.le_refl _) (.cells #[.int .i64 0, .int .i64 0, .int .i64 0, .int .i64 0, .int .i64 0, .int .i64 0, .int .i64 0, .slice none 0 0] 28)
          have ZJ := FrameAt.new (T := 28) (a := 0) (q := 0) (t := 0) (m := 0) (r := 0) (s := 0) (k := 0) (v := .slice none 0 0) wa
          have hJ : w1.heap.size ≤ wa.heap.size := bb.size
          replace bb := below_two bb bal
          clear bal
          obtain ⟨J, eJ⟩ : ∃ J, J = wa.heap.size := ⟨_, rfl⟩
          rw [← eJ] at ZJ hJ ⊢
          clear eJ
          generalize wa.alloc (.cells #[.int .i64 0, .int .i64 0, .int .i64 0, .int .i64 0, .int .i64 0, .int .i64 0, .int .i64 0, .slice none 0 0] 28) = wl at ZJ bb ⊢
          refine hK.out _ _ ?_ (fun hHeld => ?_)
          · exact ⟨desc_cells (A0.out.below (below_two H.below bb) A0.out.lt), state_cells8 (B0.out.below (below_two H.below bb) B0.out.lt)⟩
          clear hK K
          try simp only [List.getElem_toArray, List.getElem_cons_succ, List.getElem_cons_zero, Act.put, List.setIfInBounds_toArray, List.set_cons_zero, List.set_cons_succ]
          refine wpAnyH_ready (rs := [3]) (by kernel_rfl) (by simp) (AllReadyH.cons rfl (fun K hK => ?_) AllReadyH.nil)
          go_simp
          refine (toState_any _ _ _ _ _ _).mono ?_
          rintro e wc ⟨rfl, bc⟩
          replace ZJ := ZJ.below bc ZJ.lt
          replace bb := below_two bb bc
          clear bc
          go_wp2_with fail
          refine hK.out _ _ ?_ (fun hHeld => ?_)
          · exact ⟨desc_cells (A0.out.below (below_two H.below bb) A0.out.lt), state_cells8 (B0.out.below (below_two H.below bb) B0.out.lt)⟩
          clear hK K
          try simp only [List.getElem_toArray, List.getElem_cons_succ, List.getElem_cons_zero, Act.put, List.setIfInBounds_toArray, List.set_cons_zero, List.set_cons_succ]
          refine wpAnyH_ready (rs := [4]) (by kernel_rfl) (by simp) (AllReadyH.cons rfl (fun K hK => ?_) AllReadyH.nil)
          go_simp
          refine (emptyFrame_any _ _ _ _ _ _ _ _ _ _ _).mono ?_
          intro e w8 h8
          rw [HF.out] at h8
          obtain ⟨p8, c8, rfl, o8, b8⟩ := h8
          simp only at o8 ⊢
          have hn := above8 o8 ZJ.lt
          replace ZJ := ZJ.below b8 ZJ.lt
          have O8 := o8.more bb.size
          replace bb := below_two bb b8
          clear o8 b8
          go_wp2_with fail
          refine hK.out _ _ ?_ (fun hHeld => ?_)
          · exact ⟨desc_cells (A0.out.below (below_two H.below bb) A0.out.lt), state_cells8 (B0.out.below (below_two H.below bb) B0.out.lt)⟩
          clear hK K
          try simp only [List.getElem_toArray, List.getElem_cons_succ, List.getElem_cons_zero, Act.put, List.setIfInBounds_toArray, List.set_cons_zero, List.set_cons_succ]
          refine wpAnyH_take (i := 5) (v := ?_) rfl (by kernel_rfl) (by kernel_rfl) (by kernel_rfl) (fun _ _ _ h => h) (Or.inl ⟨by rfl, ?_⟩) (by assumption) ?_
          rotate_left
          · (intro w hSw; (try dsimp only at hSw); go_simp; (try with_reducible rfl))
          try simp only [List.getElem_toArray, List.getElem_cons_succ, List.getElem_cons_zero, Act.put, List.setIfInBounds_toArray, List.set_cons_zero, List.set_cons_succ]
          refine wpAnyH_take (i := 6) (v := ?_) rfl (by kernel_rfl) (by kernel_rfl) (by kernel_rfl) (fun _ _ _ h => h) (Or.inl ⟨by rfl, ?_⟩) (by assumption) ?_
          rotate_left
          · (intro w hSw; (try dsimp only at hSw); go_simp; (try with_reducible rfl))
          try simp only [List.getElem_toArray, List.getElem_cons_succ, List.getElem_cons_zero, Act.put, List.setIfInBounds_toArray, List.set_cons_zero, List.set_cons_succ]
          refine wpAnyH_take (i := 7) (v := ?_) rfl (by kernel_rfl) (by kernel_rfl) (by kernel_rfl) (fun _ _ _ h => h) (Or.inl ⟨by rfl, ?_⟩) (by assumption) ?_
          rotate_left
          · (intro w hSw; (try dsimp only at hSw); go_simp; (try with_reducible rfl))
          try simp only [List.getElem_toArray, List.getElem_cons_succ, List.getElem_cons_zero, Act.put, List.setIfInBounds_toArray, List.set_cons_zero, List.set_cons_succ]
          have rc0 := ZJ.c0
          have rc1 := ZJ.c1
          have rc2 := ZJ.c2
          have rc3 := ZJ.c3
          have rc4 := ZJ.c4
          have rc5 := ZJ.c5
          have rc6 := ZJ.c6
          have rc7 := ZJ.c7
          have rf0 := ZJ.f 0
          have rf1 := ZJ.f 1
          have rf2 := ZJ.f 2
          have rf3 := ZJ.f 3
          have rf4 := ZJ.f 4
          have rf5 := ZJ.f 5
          have rf6 := ZJ.f 6
          have rf7 := ZJ.f 7
          refine wpAnyH_ready (rs := [9]) (by kernel_rfl) (by simp) (AllReadyH.cons rfl (fun K hK => ?_) AllReadyH.nil)
          go_simp
          have LF := laid_fr (a := a) (q := q) (t := t) (m := m) (r := r) (s := s) (k := k) ZJ O8 hn hJ bb
          clear rc0 rf0 rc1 rf1 rc2 rf2 rc3 rf3 rc4 rf4 rc5 rf5 rc6 rf6 rc7 rf7
          refine hK.out _ _ ?_ (fun hHeld => ?_)
          · exact ⟨desc_cells (A0.out.below (below_two H.below LF.2.2.2.2) A0.out.lt), state_cells8 (B0.out.below (below_two H.below LF.2.2.2.2) B0.out.lt)⟩
          clear hK K
          try simp only [List.getElem_toArray, List.getElem_cons_succ, List.getElem_cons_zero, Act.put, List.setIfInBounds_toArray, List.set_cons_zero, List.set_cons_succ]
          refine wpAnyH_take (i := 10) (v := ?_) rfl (by kernel_rfl) (by kernel_rfl) (by kernel_rfl) (fun _ _ _ h => h) (Or.inl ⟨by rfl, ?_⟩) (by assumption) ?_
          rotate_left
          · (intro w hSw; (try dsimp only at hSw); go_simp; (try with_reducible rfl))
          try simp only [List.getElem_toArray, List.getElem_cons_succ, List.getElem_cons_zero, Act.put, List.setIfInBounds_toArray, List.set_cons_zero, List.set_cons_succ]
          refine wpAnyH_done (by kernel_rfl) ?_ _
          go_wp2_with fail
          go_meet
          exact ⟨_, rfl, J, p8, c8, rfl, rfl, LF⟩
      · go_simp
        have bal := Below.alloc (Below.refl wd.heap.size wd) (Nat.le_refl _) (.cells #[.int .i64 0, .int .i64 0, .int .i64 0, .int .i64 0, .int .i64 0, .int .i64 0, .int .i64 0, .slice none 0 0] 28)
        have ZJ := FrameAt.new (T := 28) (a := 0) (q := 0) (t := 0) (m := 0) (r := 0) (s := 0) (k := 0) (v := .slice none 0 0) wd
        have hJ : w1.heap.size ≤ wd.heap.size := bb.size
        replace bb := below_two bb bal
        clear bal
        obtain ⟨J, eJ⟩ : ∃ J, J = wd.heap.size := ⟨_, rfl⟩
        rw [← eJ] at ZJ hJ ⊢
        clear eJ
        generalize wd.alloc (.cells #[.int .i64 0, .int .i64 0, .int .i64 0, .int .i64 0, .int .i64 0, .int .i64 0, .int .i64 0, .slice none 0 0] 28) = wl at ZJ bb ⊢
        refine hK.out _ _ ?_ (fun hHeld => ?_)
        · exact ⟨desc_cells (A0.out.below (below_two H.below bb) A0.out.lt), state_cells8 (B0.out.below (below_two H.below bb) B0.out.lt)⟩
        clear hK K
        try simp only [List.getElem_toArray, List.getElem_cons_succ, List.getElem_cons_zero, Act.put, List.setIfInBounds_toArray, List.set_cons_zero, List.set_cons_succ]
        refine wpAnyH_ready (rs := [1]) (by kernel_rfl) (by simp) (AllReadyH.cons rfl (fun K hK => ?_) AllReadyH.nil)
        go_simp
        refine (toDescriptor_any _ _ _ _ _ _).mono ?_
        rintro e wa ⟨rfl, ba⟩
        replace ZJ := ZJ.below ba ZJ.lt
        replace bb := below_two bb ba
        clear ba
        go_wp2_with fail
        refine hK.out _ _ ?_ (fun hHeld => ?_)
        · exact ⟨desc_cells (A0.out.below (below_two H.below bb) A0.out.lt), state_cells8 (B0.out.below (below_two H.below bb) B0.out.lt)⟩
        clear hK K
        try simp only [List.getElem_toArray, List.getElem_cons_succ, List.getElem_cons_zero, Act.put, List.setIfInBounds_toArray, List.set_cons_zero, List.set_cons_succ]
        refine wpAnyH_ready (rs := [3]) (by kernel_rfl) (by simp) (AllReadyH.cons rfl (fun K hK => ?_) AllReadyH.nil)
        go_simp
        refine (toState_any _ _ _ _ _ _).mono ?_
        rintro e wc ⟨rfl, bc⟩
        replace ZJ := ZJ.below bc ZJ.lt
        replace bb := below_two bb bc
        clear bc
        go_wp2_with fail
        refine hK.out _ _ ?_ (fun hHeld => ?_)
        · exact ⟨desc_cells (A0.out.below (below_two H.below bb) A0.out.lt), state_cells8 (B0.out.below (below_two H.below bb) B0.out.lt)⟩
        clear hK K
        try simp only [List.getElem_toArray, List.getElem_cons_succ, List.getElem_cons_zero, Act.put, List.setIfInBounds_toArray, List.set_cons_zero, List.set_cons_succ]
        refine wpAnyH_ready (rs := [4]) (by kernel_rfl) (by simp) (AllReadyH.cons rfl (fun K hK => ?_) AllReadyH.nil)
        go_simp
        refine (emptyFrame_any _ _ _ _ _ _ _ _ _ _ _).mono ?_
        intro e w8 h8
        rw [HF.out] at h8
        obtain ⟨p8, c8, rfl, o8, b8⟩ := h8
        simp only at o8 ⊢
        have hn := above8 o8 ZJ.lt
        replace ZJ := ZJ.below b8 ZJ.lt
        have O8 := o8.more bb.size
        replace bb := below_two bb b8
        clear o8 b8
        go_wp2_with fail
        refine hK.out _ _ ?_ (fun hHeld => ?_)
        · exact ⟨desc_cells (A0.out.below (below_two H.below bb) A0.out.lt), state_cells8 (B0.out.below (below_two H.below bb) B0.out.lt)⟩
        clear hK K
        try simp only [List.getElem_toArray, List.getElem_cons_succ, List.getElem_cons_zero, Act.put, List.setIfInBounds_toArray, List.set_cons_zero, List.set_cons_succ]
        refine wpAnyH_take (i := 5) (v := ?_) rfl (by kernel_rfl) (by kernel_rfl) (by kernel_rfl) (fun _ _ _ h => h) (Or.inl ⟨by rfl, ?_⟩) (by assumption) ?_
        rotate_left
        · (intro w hSw; (try dsimp only at hSw); go_simp; (try with_reducible rfl))
        try simp only [List.getElem_toArray, List.getElem_cons_succ, List.getElem_cons_zero, Act.put, List.setIfInBounds_toArray, List.set_cons_zero, List.set_cons_succ]
        refine wpAnyH_take (i := 6) (v := ?_) rfl (by kernel_rfl) (by kernel_rfl) (by kernel_rfl) (fun _ _ _ h => h) (Or.inl ⟨by rfl, ?_⟩) (by assumption) ?_
        rotate_left
        · (intro w hSw; (try dsimp only at hSw); go_simp; (try with_reducible rfl))
        try simp only [List.getElem_toArray, List.getElem_cons_succ, List.getElem_cons_zero, Act.put, List.setIfInBounds_toArray, List.set_cons_zero, List.set_cons_succ]
        refine wpAnyH_take (i := 7) (v := ?_) rfl (by kernel_rfl) (by kernel_rfl) (by kernel_rfl) (fun _ _ _ h => h) (Or.inl ⟨by rfl, ?_⟩) (by assumption) ?_
        rotate_left
        · (intro w hSw; (try dsimp only at hSw); go_simp; (try with_reducible rfl))
        try simp only [List.getElem_toArray, List.getElem_cons_succ, List.getElem_cons_zero, Act.put, List.setIfInBounds_toArray, List.set_cons_zero, List.set_cons_succ]
        have rc0 := ZJ.c0
        have rc1 := ZJ.c1
        have rc2 := ZJ.c2
        have rc3 := ZJ.c3
        have rc4 := ZJ.c4
        have rc5 := ZJ.c5
        have rc6 := ZJ.c6
        have rc7 := ZJ.c7
        have rf0 := ZJ.f 0
        have rf1 := ZJ.f 1
        have rf2 := ZJ.f 2
        have rf3 := ZJ.f 3
        have rf4 := ZJ.f 4
        have rf5 := ZJ.f 5
        have rf6 := ZJ.f 6
        have rf7 := ZJ.f 7
        refine wpAnyH_ready (rs := [9]) (by kernel_rfl) (by simp) (AllReadyH.cons rfl (fun K hK => ?_) AllReadyH.nil)
        go_simp
        have LF := laid_fr (a := a) (q := q) (t := t) (m := m) (r := r) (s := s) (k := k) ZJ O8 hn hJ bb
        clear rc0 rf0 rc1 rf1 rc2 rf2 rc3 rf3 rc4 rf4 rc5 rf5 rc6 rf6 rc7 rf7
        refine hK.out _ _ ?_ (fun hHeld => ?_)
        · exact ⟨desc_cells (A0.out.below (below_two H.below LF.2.2.2.2) A0.out.lt), state_cells8 (B0.out.below (below_two H.below LF.2.2.2.2) B0.out.lt)⟩
        clear hK K
        try simp only [List.getElem_toArray, List.getElem_cons_succ, List.getElem_cons_zero, Act.put, List.setIfInBounds_toArray, List.set_cons_zero, List.set_cons_succ]
        refine wpAnyH_take (i := 10) (v := ?_) rfl (by kernel_rfl) (by kernel_rfl) (by kernel_rfl) (fun _ _ _ h => h) (Or.inl ⟨by rfl, ?_⟩) (by assumption) ?_
        rotate_left
        · (intro w hSw; (try dsimp only at hSw); go_simp; (try with_reducible rfl))
        try simp only [List.getElem_toArray, List.getElem_cons_succ, List.getElem_cons_zero, Act.put, List.setIfInBounds_toArray, List.set_cons_zero, List.set_cons_succ]
        refine wpAnyH_done (by kernel_rfl) ?_ _
        go_wp2_with fail
        go_meet
        exact ⟨_, rfl, J, p8, c8, rfl, rfl, LF⟩
    case rest =>
      obtain ⟨w2, rfl, bG, p2, c2, rfl, rfl, G, o2, hnG, hjj2, b2⟩ := hcut
      have loGW := above_box o2 W.lt
      replace W := W.below b2 W.lt
      replace H := H.make o2 b2
      clear o2 b2 hjj2
      obtain ⟨g0', g1', g2', g3', g4', g5', g6', g7'⟩ := frame_cells G
      obtain ⟨w0', w1', w2', w3', w4', w5', w6', w7'⟩ := frame_cells W
      go_wp2_with fail
      clear g0' g1' g2' g3' g4' g5' g6' g7' w0' w1' w2' w3' w4' w5' w6' w7'
      refine (eqFrame_yes _ _ _ _ _ _ _ _ _ _ _ _ _ (H.rd 0 rfl rfl) (H.rd 1 rfl rfl) hdl).mono ?_
      rintro e w3 ⟨rfl, b3⟩
      replace W := W.below b3 W.lt
      replace G := G.below b3 G.lt
      replace H := H.still b3
      clear b3
      obtain ⟨g0', g1', g2', g3', g4', g5', g6', g7'⟩ := frame_cells G
      go_wp2_with fail
      clear g0' g1' g2' g3' g4' g5' g6' g7'
      refine (markFrame_own _ _ _ _ _ _ _ _ _ _ _ _ _ _ rfl (H.get 0 rfl) (by omega) (by omega) (by omega)).mono ?_
      rintro e w4 ⟨rfl, o4, g4⟩
      replace W := W.grown g4 (ne_below loGW)
      replace G := G.grown g4 (ne_own hnG)
      replace H := H.mark [] o4 g4
      clear o4 g4
      obtain ⟨g0', g1', g2', g3', g4', g5', g6', g7'⟩ := frame_cells G
      go_wp2_with fail
      clear g0' g1' g2' g3' g4' g5' g6' g7'
      refine (heldFrame_yes _ _ _ _ _ _ _ _ _ _ _ _ (H.rd 0 rfl (marks_len _ _)) (by omega) (by omega) (by omega)).mono ?_
      rintro e w5 ⟨rfl, b5⟩
      replace W := W.below b5 W.lt
      replace G := G.below b5 G.lt
      replace H := H.still b5
      clear b5
      go_upto_region 13 with fail
      go_cut [11, 12] (fun s7 s8 wx => ∃ wy, wy = wx ∧ ∃ J p8 c8, s7 = .pointer (some ⟨J, 0, none⟩) ∧ s8 = .int .i64 z ∧ LaidFr w5 wy J a q t m r s k d p8 c8)
      case first =>
        have bb : Below w5.heap.size w5 w5.drew := Below.drew (Below.refl _ _)
        refine wp_region_held_drew (S := fun w' => (w'.cell? ⟨w.heap.size, 0, none⟩ = some (.int .i64 s0_0) ∧ w'.cell? ⟨w.heap.size, 1, none⟩ = some (.int .i64 s0_1) ∧ w'.cell? ⟨w.heap.size, 2, none⟩ = some (.int .i64 s0_2) ∧ w'.cell? ⟨w.heap.size, 3, none⟩ = some (.int .i64 s0_3) ∧ w'.cell? ⟨w.heap.size, 4, none⟩ = some (.bool s0_4)) ∧ (w'.cell? ⟨(w.heap.size + 1), 0, none⟩ = some (.int .i64 s1_0) ∧ w'.cell? ⟨(w.heap.size + 1), 1, none⟩ = some (.int .i64 s1_1) ∧ w'.cell? ⟨(w.heap.size + 1), 2, none⟩ = some (.int .i64 s1_2) ∧ w'.cell? ⟨(w.heap.size + 1), 3, none⟩ = some (.int .i64 s1_3) ∧ w'.cell? ⟨(w.heap.size + 1), 4, none⟩ = some (.int .i64 s1_4))) (by kernel_rfl) (⟨desc_cells (A0.out.below (below_two H.below bb) A0.out.lt), state_cells8 (B0.out.below (below_two H.below bb) B0.out.lt)⟩) (fun hHeld => ?_)
        generalize w5.drew = wd at bb hHeld ⊢
        refine wpAnyH_take (i := 0) (v := ?_) rfl (by kernel_rfl) (by kernel_rfl) (by kernel_rfl) (fun _ _ _ h => h) (Or.inl ⟨by rfl, ?_⟩) (by assumption) ?_
        rotate_left
        · (intro w hSw; (try dsimp only at hSw); go_simp; (try with_reducible rfl))
        try simp only [List.getElem_toArray, List.getElem_cons_succ, List.getElem_cons_zero, Act.put, List.setIfInBounds_toArray, List.set_cons_zero, List.set_cons_succ]
        refine wpAnyH_take (i := 2) (v := ?_) rfl (by kernel_rfl) (by kernel_rfl) (by kernel_rfl) (fun _ _ _ h => h) (Or.inl ⟨by rfl, ?_⟩) (by assumption) ?_
        rotate_left
        · (intro w hSw; (try dsimp only at hSw); go_simp; (try with_reducible rfl))
        try simp only [List.getElem_toArray, List.getElem_cons_succ, List.getElem_cons_zero, Act.put, List.setIfInBounds_toArray, List.set_cons_zero, List.set_cons_succ]
        refine wpAnyH_ready (rs := [1, 8]) (by kernel_rfl) (by simp) (AllReadyH.cons rfl (fun K hK => ?_) (AllReadyH.cons rfl (fun K hK => ?_) AllReadyH.nil))
        · go_simp
          refine (toDescriptor_any _ _ _ _ _ _).mono ?_
          rintro e wa ⟨rfl, ba⟩
          replace bb := below_two bb ba
          clear ba
          go_wp2_with fail
          refine hK.out _ _ ?_ (fun hHeld => ?_)
          · exact ⟨desc_cells (A0.out.below (below_two H.below bb) A0.out.lt), state_cells8 (B0.out.below (below_two H.below bb) B0.out.lt)⟩
          clear hK K
          try simp only [List.getElem_toArray, List.getElem_cons_succ, List.getElem_cons_zero, Act.put, List.setIfInBounds_toArray, List.set_cons_zero, List.set_cons_succ]
          refine wpAnyH_ready (rs := [3, 8]) (by kernel_rfl) (by simp) (AllReadyH.cons rfl (fun K hK => ?_) (AllReadyH.cons rfl (fun K hK => ?_) AllReadyH.nil))
          · go_simp
            refine (toState_any _ _ _ _ _ _).mono ?_
            rintro e wc ⟨rfl, bc⟩
            replace bb := below_two bb bc
            clear bc
            go_wp2_with fail
            refine hK.out _ _ ?_ (fun hHeld => ?_)
            · exact ⟨desc_cells (A0.out.below (below_two H.below bb) A0.out.lt), state_cells8 (B0.out.below (below_two H.below bb) B0.out.lt)⟩
            clear hK K
            try simp only [List.getElem_toArray, List.getElem_cons_succ, List.getElem_cons_zero, Act.put, List.setIfInBounds_toArray, List.set_cons_zero, List.set_cons_succ]
            refine wpAnyH_ready (rs := [4, 8]) (by kernel_rfl) (by simp) (AllReadyH.cons rfl (fun K hK => ?_) (AllReadyH.cons rfl (fun K hK => ?_) AllReadyH.nil))
            · go_simp
              refine (emptyFrame_any _ _ _ _ _ _ _ _ _ _ _).mono ?_
              intro e w8 h8
              rw [HF.out] at h8
              obtain ⟨p8, c8, rfl, o8, b8⟩ := h8
              simp only at o8 ⊢
              have O8 := o8.more bb.size
              replace bb := below_two bb b8
              clear o8 b8
              go_wp2_with fail
              refine hK.out _ _ ?_ (fun hHeld => ?_)
              · exact ⟨desc_cells (A0.out.below (below_two H.below bb) A0.out.lt), state_cells8 (B0.out.below (below_two H.below bb) B0.out.lt)⟩
              clear hK K
              try simp only [List.getElem_toArray, List.getElem_cons_succ, List.getElem_cons_zero, Act.put, List.setIfInBounds_toArray, List.set_cons_zero, List.set_cons_succ]
              refine wpAnyH_take (i := 5) (v := ?_) rfl (by kernel_rfl) (by kernel_rfl) (by kernel_rfl) (fun _ _ _ h => h) (Or.inl ⟨by rfl, ?_⟩) (by assumption) ?_
              rotate_left
              · (intro w hSw; (try dsimp only at hSw); go_simp; (try with_reducible rfl))
              try simp only [List.getElem_toArray, List.getElem_cons_succ, List.getElem_cons_zero, Act.put, List.setIfInBounds_toArray, List.set_cons_zero, List.set_cons_succ]
              refine wpAnyH_take (i := 6) (v := ?_) rfl (by kernel_rfl) (by kernel_rfl) (by kernel_rfl) (fun _ _ _ h => h) (Or.inl ⟨by rfl, ?_⟩) (by assumption) ?_
              rotate_left
              · (intro w hSw; (try dsimp only at hSw); go_simp; (try with_reducible rfl))
              try simp only [List.getElem_toArray, List.getElem_cons_succ, List.getElem_cons_zero, Act.put, List.setIfInBounds_toArray, List.set_cons_zero, List.set_cons_succ]
              refine wpAnyH_take (i := 7) (v := ?_) rfl (by kernel_rfl) (by kernel_rfl) (by kernel_rfl) (fun _ _ _ h => h) (Or.inl ⟨by rfl, ?_⟩) (by assumption) ?_
              rotate_left
              · (intro w hSw; (try dsimp only at hSw); go_simp; (try with_reducible rfl))
              try simp only [List.getElem_toArray, List.getElem_cons_succ, List.getElem_cons_zero, Act.put, List.setIfInBounds_toArray, List.set_cons_zero, List.set_cons_succ]
              refine wpAnyH_ready (rs := [8]) (by kernel_rfl) (by simp) (AllReadyH.cons rfl (fun K hK => ?_) AllReadyH.nil)
              go_simp
              have bal := Below.alloc (Below.refl w8.heap.size w8) (Nat.le_refl _) (.cells #[.int .i64 0, .int .i64 0, .int .i64 0, .int .i64 0, .int .i64 0, .int .i64 0, .int .i64 0, .slice none 0 0] 28)
              have ZJ := FrameAt.new (T := 28) (a := 0) (q := 0) (t := 0) (m := 0) (r := 0) (s := 0) (k := 0) (v := .slice none 0 0) w8
              have hJ : w5.heap.size ≤ w8.heap.size := bb.size
              have hn := under8 O8
              replace O8 := O8.below bal
              replace bb := below_two bb bal
              clear bal
              obtain ⟨J, eJ⟩ : ∃ J, J = w8.heap.size := ⟨_, rfl⟩
              rw [← eJ] at ZJ hJ hn ⊢
              clear eJ
              generalize w8.alloc (.cells #[.int .i64 0, .int .i64 0, .int .i64 0, .int .i64 0, .int .i64 0, .int .i64 0, .int .i64 0, .slice none 0 0] 28) = wl at ZJ bb O8 ⊢
              refine hK.out _ _ ?_ (fun hHeld => ?_)
              · exact ⟨desc_cells (A0.out.below (below_two H.below bb) A0.out.lt), state_cells8 (B0.out.below (below_two H.below bb) B0.out.lt)⟩
              clear hK K
              try simp only [List.getElem_toArray, List.getElem_cons_succ, List.getElem_cons_zero, Act.put, List.setIfInBounds_toArray, List.set_cons_zero, List.set_cons_succ]
              have rc0 := ZJ.c0
              have rc1 := ZJ.c1
              have rc2 := ZJ.c2
              have rc3 := ZJ.c3
              have rc4 := ZJ.c4
              have rc5 := ZJ.c5
              have rc6 := ZJ.c6
              have rc7 := ZJ.c7
              have rf0 := ZJ.f 0
              have rf1 := ZJ.f 1
              have rf2 := ZJ.f 2
              have rf3 := ZJ.f 3
              have rf4 := ZJ.f 4
              have rf5 := ZJ.f 5
              have rf6 := ZJ.f 6
              have rf7 := ZJ.f 7
              refine wpAnyH_ready (rs := [9]) (by kernel_rfl) (by simp) (AllReadyH.cons rfl (fun K hK => ?_) AllReadyH.nil)
              go_simp
              have LF := laid_fr (a := a) (q := q) (t := t) (m := m) (r := r) (s := s) (k := k) ZJ O8 hn hJ bb
              clear rc0 rf0 rc1 rf1 rc2 rf2 rc3 rf3 rc4 rf4 rc5 rf5 rc6 rf6 rc7 rf7
              refine hK.out _ _ ?_ (fun hHeld => ?_)
              · exact ⟨desc_cells (A0.out.below (below_two H.below LF.2.2.2.2) A0.out.lt), state_cells8 (B0.out.below (below_two H.below LF.2.2.2.2) B0.out.lt)⟩
              clear hK K
              try simp only [List.getElem_toArray, List.getElem_cons_succ, List.getElem_cons_zero, Act.put, List.setIfInBounds_toArray, List.set_cons_zero, List.set_cons_succ]
              refine wpAnyH_take (i := 10) (v := ?_) rfl (by kernel_rfl) (by kernel_rfl) (by kernel_rfl) (fun _ _ _ h => h) (Or.inl ⟨by rfl, ?_⟩) (by assumption) ?_
              rotate_left
              · (intro w hSw; (try dsimp only at hSw); go_simp; (try with_reducible rfl))
              try simp only [List.getElem_toArray, List.getElem_cons_succ, List.getElem_cons_zero, Act.put, List.setIfInBounds_toArray, List.set_cons_zero, List.set_cons_succ]
              refine wpAnyH_done (by kernel_rfl) ?_ _
              go_wp2_with fail
              go_meet
              exact ⟨_, rfl, J, p8, c8, rfl, rfl, LF⟩
            · go_simp
              have bal := Below.alloc (Below.refl wc.heap.size wc) (Nat.le_refl _) (.cells #[.int .i64 0, .int .i64 0, .int .i64 0, .int .i64 0, .int .i64 0, .int .i64 0, .int .i64 0, .slice none 0 0] 28)
              have ZJ := FrameAt.new (T := 28) (a := 0) (q := 0) (t := 0) (m := 0) (r := 0) (s := 0) (k := 0) (v := .slice none 0 0) wc
              have hJ : w5.heap.size ≤ wc.heap.size := bb.size
              replace bb := below_two bb bal
              clear bal
              obtain ⟨J, eJ⟩ : ∃ J, J = wc.heap.size := ⟨_, rfl⟩
              rw [← eJ] at ZJ hJ ⊢
              clear eJ
              generalize wc.alloc (.cells #[.int .i64 0, .int .i64 0, .int .i64 0, .int .i64 0, .int .i64 0, .int .i64 0, .int .i64 0, .slice none 0 0] 28) = wl at ZJ bb ⊢
              refine hK.out _ _ ?_ (fun hHeld => ?_)
              · exact ⟨desc_cells (A0.out.below (below_two H.below bb) A0.out.lt), state_cells8 (B0.out.below (below_two H.below bb) B0.out.lt)⟩
              clear hK K
              try simp only [List.getElem_toArray, List.getElem_cons_succ, List.getElem_cons_zero, Act.put, List.setIfInBounds_toArray, List.set_cons_zero, List.set_cons_succ]
              refine wpAnyH_ready (rs := [4]) (by kernel_rfl) (by simp) (AllReadyH.cons rfl (fun K hK => ?_) AllReadyH.nil)
              go_simp
              refine (emptyFrame_any _ _ _ _ _ _ _ _ _ _ _).mono ?_
              intro e w8 h8
              rw [HF.out] at h8
              obtain ⟨p8, c8, rfl, o8, b8⟩ := h8
              simp only at o8 ⊢
              have hn := above8 o8 ZJ.lt
              replace ZJ := ZJ.below b8 ZJ.lt
              have O8 := o8.more bb.size
              replace bb := below_two bb b8
              clear o8 b8
              go_wp2_with fail
              refine hK.out _ _ ?_ (fun hHeld => ?_)
              · exact ⟨desc_cells (A0.out.below (below_two H.below bb) A0.out.lt), state_cells8 (B0.out.below (below_two H.below bb) B0.out.lt)⟩
              clear hK K
              try simp only [List.getElem_toArray, List.getElem_cons_succ, List.getElem_cons_zero, Act.put, List.setIfInBounds_toArray, List.set_cons_zero, List.set_cons_succ]
              refine wpAnyH_take (i := 5) (v := ?_) rfl (by kernel_rfl) (by kernel_rfl) (by kernel_rfl) (fun _ _ _ h => h) (Or.inl ⟨by rfl, ?_⟩) (by assumption) ?_
              rotate_left
              · (intro w hSw; (try dsimp only at hSw); go_simp; (try with_reducible rfl))
              try simp only [List.getElem_toArray, List.getElem_cons_succ, List.getElem_cons_zero, Act.put, List.setIfInBounds_toArray, List.set_cons_zero, List.set_cons_succ]
              refine wpAnyH_take (i := 6) (v := ?_) rfl (by kernel_rfl) (by kernel_rfl) (by kernel_rfl) (fun _ _ _ h => h) (Or.inl ⟨by rfl, ?_⟩) (by assumption) ?_
              rotate_left
              · (intro w hSw; (try dsimp only at hSw); go_simp; (try with_reducible rfl))
              try simp only [List.getElem_toArray, List.getElem_cons_succ, List.getElem_cons_zero, Act.put, List.setIfInBounds_toArray, List.set_cons_zero, List.set_cons_succ]
              refine wpAnyH_take (i := 7) (v := ?_) rfl (by kernel_rfl) (by kernel_rfl) (by kernel_rfl) (fun _ _ _ h => h) (Or.inl ⟨by rfl, ?_⟩) (by assumption) ?_
              rotate_left
              · (intro w hSw; (try dsimp only at hSw); go_simp; (try with_reducible rfl))
              try simp only [List.getElem_toArray, List.getElem_cons_succ, List.getElem_cons_zero, Act.put, List.setIfInBounds_toArray, List.set_cons_zero, List.set_cons_succ]
              have rc0 := ZJ.c0
              have rc1 := ZJ.c1
              have rc2 := ZJ.c2
              have rc3 := ZJ.c3
              have rc4 := ZJ.c4
              have rc5 := ZJ.c5
              have rc6 := ZJ.c6
              have rc7 := ZJ.c7
              have rf0 := ZJ.f 0
              have rf1 := ZJ.f 1
              have rf2 := ZJ.f 2
              have rf3 := ZJ.f 3
              have rf4 := ZJ.f 4
              have rf5 := ZJ.f 5
              have rf6 := ZJ.f 6
              have rf7 := ZJ.f 7
              refine wpAnyH_ready (rs := [9]) (by kernel_rfl) (by simp) (AllReadyH.cons rfl (fun K hK => ?_) AllReadyH.nil)
              go_simp
              have LF := laid_fr (a := a) (q := q) (t := t) (m := m) (r := r) (s := s) (k := k) ZJ O8 hn hJ bb
              clear rc0 rf0 rc1 rf1 rc2 rf2 rc3 rf3 rc4 rf4 rc5 rf5 rc6 rf6 rc7 rf7
              refine hK.out _ _ ?_ (fun hHeld => ?_)
              · exact ⟨desc_cells (A0.out.below (below_two H.below LF.2.2.2.2) A0.out.lt), state_cells8 (B0.out.below (below_two H.below LF.2.2.2.2) B0.out.lt)⟩
              clear hK K
              try simp only [List.getElem_toArray, List.getElem_cons_succ, List.getElem_cons_zero, Act.put, List.setIfInBounds_toArray, List.set_cons_zero, List.set_cons_succ]
              refine wpAnyH_take (i := 10) (v := ?_) rfl (by kernel_rfl) (by kernel_rfl) (by kernel_rfl) (fun _ _ _ h => h) (Or.inl ⟨by rfl, ?_⟩) (by assumption) ?_
              rotate_left
              · (intro w hSw; (try dsimp only at hSw); go_simp; (try with_reducible rfl))
              try simp only [List.getElem_toArray, List.getElem_cons_succ, List.getElem_cons_zero, Act.put, List.setIfInBounds_toArray, List.set_cons_zero, List.set_cons_succ]
              refine wpAnyH_done (by kernel_rfl) ?_ _
              go_wp2_with fail
              go_meet
              exact ⟨_, rfl, J, p8, c8, rfl, rfl, LF⟩
          · go_simp
            have bal := Below.alloc (Below.refl wa.heap.size wa) (Nat.le_refl _) (.cells #[.int .i64 0, .int .i64 0, .int .i64 0, .int .i64 0, .int .i64 0, .int .i64 0, .int .i64 0, .slice none 0 0] 28)
            have ZJ := FrameAt.new (T := 28) (a := 0) (q := 0) (t := 0) (m := 0) (r := 0) (s := 0) (k := 0) (v := .slice none 0 0) wa
            have hJ : w5.heap.size ≤ wa.heap.size := bb.size
            replace bb := below_two bb bal
            clear bal
            obtain ⟨J, eJ⟩ : ∃ J, J = wa.heap.size := ⟨_, rfl⟩
            rw [← eJ] at ZJ hJ ⊢
            clear eJ
            generalize wa.alloc (.cells #[.int .i64 0, .int .i64 0, .int .i64 0, .int .i64 0, .int .i64 0, .int .i64 0, .int .i64 0, .slice none 0 0] 28) = wl at ZJ bb ⊢
            refine hK.out _ _ ?_ (fun hHeld => ?_)
            · exact ⟨desc_cells (A0.out.below (below_two H.below bb) A0.out.lt), state_cells8 (B0.out.below (below_two H.below bb) B0.out.lt)⟩
            clear hK K
            try simp only [List.getElem_toArray, List.getElem_cons_succ, List.getElem_cons_zero, Act.put, List.setIfInBounds_toArray, List.set_cons_zero, List.set_cons_succ]
            refine wpAnyH_ready (rs := [3]) (by kernel_rfl) (by simp) (AllReadyH.cons rfl (fun K hK => ?_) AllReadyH.nil)
            go_simp
            refine (toState_any _ _ _ _ _ _).mono ?_
            rintro e wc ⟨rfl, bc⟩
            replace ZJ := ZJ.below bc ZJ.lt
            replace bb := below_two bb bc
            clear bc
            go_wp2_with fail
            refine hK.out _ _ ?_ (fun hHeld => ?_)
            · exact ⟨desc_cells (A0.out.below (below_two H.below bb) A0.out.lt), state_cells8 (B0.out.below (below_two H.below bb) B0.out.lt)⟩
            clear hK K
            try simp only [List.getElem_toArray, List.getElem_cons_succ, List.getElem_cons_zero, Act.put, List.setIfInBounds_toArray, List.set_cons_zero, List.set_cons_succ]
            refine wpAnyH_ready (rs := [4]) (by kernel_rfl) (by simp) (AllReadyH.cons rfl (fun K hK => ?_) AllReadyH.nil)
            go_simp
            refine (emptyFrame_any _ _ _ _ _ _ _ _ _ _ _).mono ?_
            intro e w8 h8
            rw [HF.out] at h8
            obtain ⟨p8, c8, rfl, o8, b8⟩ := h8
            simp only at o8 ⊢
            have hn := above8 o8 ZJ.lt
            replace ZJ := ZJ.below b8 ZJ.lt
            have O8 := o8.more bb.size
            replace bb := below_two bb b8
            clear o8 b8
            go_wp2_with fail
            refine hK.out _ _ ?_ (fun hHeld => ?_)
            · exact ⟨desc_cells (A0.out.below (below_two H.below bb) A0.out.lt), state_cells8 (B0.out.below (below_two H.below bb) B0.out.lt)⟩
            clear hK K
            try simp only [List.getElem_toArray, List.getElem_cons_succ, List.getElem_cons_zero, Act.put, List.setIfInBounds_toArray, List.set_cons_zero, List.set_cons_succ]
            refine wpAnyH_take (i := 5) (v := ?_) rfl (by kernel_rfl) (by kernel_rfl) (by kernel_rfl) (fun _ _ _ h => h) (Or.inl ⟨by rfl, ?_⟩) (by assumption) ?_
            rotate_left
            · (intro w hSw; (try dsimp only at hSw); go_simp; (try with_reducible rfl))
            try simp only [List.getElem_toArray, List.getElem_cons_succ, List.getElem_cons_zero, Act.put, List.setIfInBounds_toArray, List.set_cons_zero, List.set_cons_succ]
            refine wpAnyH_take (i := 6) (v := ?_) rfl (by kernel_rfl) (by kernel_rfl) (by kernel_rfl) (fun _ _ _ h => h) (Or.inl ⟨by rfl, ?_⟩) (by assumption) ?_
            rotate_left
            · (intro w hSw; (try dsimp only at hSw); go_simp; (try with_reducible rfl))
            try simp only [List.getElem_toArray, List.getElem_cons_succ, List.getElem_cons_zero, Act.put, List.setIfInBounds_toArray, List.set_cons_zero, List.set_cons_succ]
            refine wpAnyH_take (i := 7) (v := ?_) rfl (by kernel_rfl) (by kernel_rfl) (by kernel_rfl) (fun _ _ _ h => h) (Or.inl ⟨by rfl, ?_⟩) (by assumption) ?_
            rotate_left
            · (intro w hSw; (try dsimp only at hSw); go_simp; (try with_reducible rfl))
            try simp only [List.getElem_toArray, List.getElem_cons_succ, List.getElem_cons_zero, Act.put, List.setIfInBounds_toArray, List.set_cons_zero, List.set_cons_succ]
            have rc0 := ZJ.c0
            have rc1 := ZJ.c1
            have rc2 := ZJ.c2
            have rc3 := ZJ.c3
            have rc4 := ZJ.c4
            have rc5 := ZJ.c5
            have rc6 := ZJ.c6
            have rc7 := ZJ.c7
            have rf0 := ZJ.f 0
            have rf1 := ZJ.f 1
            have rf2 := ZJ.f 2
            have rf3 := ZJ.f 3
            have rf4 := ZJ.f 4
            have rf5 := ZJ.f 5
            have rf6 := ZJ.f 6
            have rf7 := ZJ.f 7
            refine wpAnyH_ready (rs := [9]) (by kernel_rfl) (by simp) (AllReadyH.cons rfl (fun K hK => ?_) AllReadyH.nil)
            go_simp
            have LF := laid_fr (a := a) (q := q) (t := t) (m := m) (r := r) (s := s) (k := k) ZJ O8 hn hJ bb
            clear rc0 rf0 rc1 rf1 rc2 rf2 rc3 rf3 rc4 rf4 rc5 rf5 rc6 rf6 rc7 rf7
            refine hK.out _ _ ?_ (fun hHeld => ?_)
            · exact ⟨desc_cells (A0.out.below (below_two H.below LF.2.2.2.2) A0.out.lt), state_cells8 (B0.out.below (below_two H.below LF.2.2.2.2) B0.out.lt)⟩
            clear hK K
            try simp only [List.getElem_toArray, List.getElem_cons_succ, List.getElem_cons_zero, Act.put, List.setIfInBounds_toArray, List.set_cons_zero, List.set_cons_succ]
            refine wpAnyH_take (i := 10) (v := ?_) rfl (by kernel_rfl) (by kernel_rfl) (by kernel_rfl) (fun _ _ _ h => h) (Or.inl ⟨by rfl, ?_⟩) (by assumption) ?_
            rotate_left
            · (intro w hSw; (try dsimp only at hSw); go_simp; (try with_reducible rfl))
            try simp only [List.getElem_toArray, List.getElem_cons_succ, List.getElem_cons_zero, Act.put, List.setIfInBounds_toArray, List.set_cons_zero, List.set_cons_succ]
            refine wpAnyH_done (by kernel_rfl) ?_ _
            go_wp2_with fail
            go_meet
            exact ⟨_, rfl, J, p8, c8, rfl, rfl, LF⟩
        · go_simp
          have bal := Below.alloc (Below.refl wd.heap.size wd) (Nat.le_refl _) (.cells #[.int .i64 0, .int .i64 0, .int .i64 0, .int .i64 0, .int .i64 0, .int .i64 0, .int .i64 0, .slice none 0 0] 28)
          have ZJ := FrameAt.new (T := 28) (a := 0) (q := 0) (t := 0) (m := 0) (r := 0) (s := 0) (k := 0) (v := .slice none 0 0) wd
          have hJ : w5.heap.size ≤ wd.heap.size := bb.size
          replace bb := below_two bb bal
          clear bal
          obtain ⟨J, eJ⟩ : ∃ J, J = wd.heap.size := ⟨_, rfl⟩
          rw [← eJ] at ZJ hJ ⊢
          clear eJ
          generalize wd.alloc (.cells #[.int .i64 0, .int .i64 0, .int .i64 0, .int .i64 0, .int .i64 0, .int .i64 0, .int .i64 0, .slice none 0 0] 28) = wl at ZJ bb ⊢
          refine hK.out _ _ ?_ (fun hHeld => ?_)
          · exact ⟨desc_cells (A0.out.below (below_two H.below bb) A0.out.lt), state_cells8 (B0.out.below (below_two H.below bb) B0.out.lt)⟩
          clear hK K
          try simp only [List.getElem_toArray, List.getElem_cons_succ, List.getElem_cons_zero, Act.put, List.setIfInBounds_toArray, List.set_cons_zero, List.set_cons_succ]
          refine wpAnyH_ready (rs := [1]) (by kernel_rfl) (by simp) (AllReadyH.cons rfl (fun K hK => ?_) AllReadyH.nil)
          go_simp
          refine (toDescriptor_any _ _ _ _ _ _).mono ?_
          rintro e wa ⟨rfl, ba⟩
          replace ZJ := ZJ.below ba ZJ.lt
          replace bb := below_two bb ba
          clear ba
          go_wp2_with fail
          refine hK.out _ _ ?_ (fun hHeld => ?_)
          · exact ⟨desc_cells (A0.out.below (below_two H.below bb) A0.out.lt), state_cells8 (B0.out.below (below_two H.below bb) B0.out.lt)⟩
          clear hK K
          try simp only [List.getElem_toArray, List.getElem_cons_succ, List.getElem_cons_zero, Act.put, List.setIfInBounds_toArray, List.set_cons_zero, List.set_cons_succ]
          refine wpAnyH_ready (rs := [3]) (by kernel_rfl) (by simp) (AllReadyH.cons rfl (fun K hK => ?_) AllReadyH.nil)
          go_simp
          refine (toState_any _ _ _ _ _ _).mono ?_
          rintro e wc ⟨rfl, bc⟩
          replace ZJ := ZJ.below bc ZJ.lt
          replace bb := below_two bb bc
          clear bc
          go_wp2_with fail
          refine hK.out _ _ ?_ (fun hHeld => ?_)
          · exact ⟨desc_cells (A0.out.below (below_two H.below bb) A0.out.lt), state_cells8 (B0.out.below (below_two H.below bb) B0.out.lt)⟩
          clear hK K
          try simp only [List.getElem_toArray, List.getElem_cons_succ, List.getElem_cons_zero, Act.put, List.setIfInBounds_toArray, List.set_cons_zero, List.set_cons_succ]
          refine wpAnyH_ready (rs := [4]) (by kernel_rfl) (by simp) (AllReadyH.cons rfl (fun K hK => ?_) AllReadyH.nil)
          go_simp
          refine (emptyFrame_any _ _ _ _ _ _ _ _ _ _ _).mono ?_
          intro e w8 h8
          rw [HF.out] at h8
          obtain ⟨p8, c8, rfl, o8, b8⟩ := h8
          simp only at o8 ⊢
          have hn := above8 o8 ZJ.lt
          replace ZJ := ZJ.below b8 ZJ.lt
          have O8 := o8.more bb.size
          replace bb := below_two bb b8
          clear o8 b8
          go_wp2_with fail
          refine hK.out _ _ ?_ (fun hHeld => ?_)
          · exact ⟨desc_cells (A0.out.below (below_two H.below bb) A0.out.lt), state_cells8 (B0.out.below (below_two H.below bb) B0.out.lt)⟩
          clear hK K
          try simp only [List.getElem_toArray, List.getElem_cons_succ, List.getElem_cons_zero, Act.put, List.setIfInBounds_toArray, List.set_cons_zero, List.set_cons_succ]
          refine wpAnyH_take (i := 5) (v := ?_) rfl (by kernel_rfl) (by kernel_rfl) (by kernel_rfl) (fun _ _ _ h => h) (Or.inl ⟨by rfl, ?_⟩) (by assumption) ?_
          rotate_left
          · (intro w hSw; (try dsimp only at hSw); go_simp; (try with_reducible rfl))
          try simp only [List.getElem_toArray, List.getElem_cons_succ, List.getElem_cons_zero, Act.put, List.setIfInBounds_toArray, List.set_cons_zero, List.set_cons_succ]
          refine wpAnyH_take (i := 6) (v := ?_) rfl (by kernel_rfl) (by kernel_rfl) (by kernel_rfl) (fun _ _ _ h => h) (Or.inl ⟨by rfl, ?_⟩) (by assumption) ?_
          rotate_left
          · (intro w hSw; (try dsimp only at hSw); go_simp; (try with_reducible rfl))
          try simp only [List.getElem_toArray, List.getElem_cons_succ, List.getElem_cons_zero, Act.put, List.setIfInBounds_toArray, List.set_cons_zero, List.set_cons_succ]
          refine wpAnyH_take (i := 7) (v := ?_) rfl (by kernel_rfl) (by kernel_rfl) (by kernel_rfl) (fun _ _ _ h => h) (Or.inl ⟨by rfl, ?_⟩) (by assumption) ?_
          rotate_left
          · (intro w hSw; (try dsimp only at hSw); go_simp; (try with_reducible rfl))
          try simp only [List.getElem_toArray, List.getElem_cons_succ, List.getElem_cons_zero, Act.put, List.setIfInBounds_toArray, List.set_cons_zero, List.set_cons_succ]
          have rc0 := ZJ.c0
          have rc1 := ZJ.c1
          have rc2 := ZJ.c2
          have rc3 := ZJ.c3
          have rc4 := ZJ.c4
          have rc5 := ZJ.c5
          have rc6 := ZJ.c6
          have rc7 := ZJ.c7
          have rf0 := ZJ.f 0
          have rf1 := ZJ.f 1
          have rf2 := ZJ.f 2
          have rf3 := ZJ.f 3
          have rf4 := ZJ.f 4
          have rf5 := ZJ.f 5
          have rf6 := ZJ.f 6
          have rf7 := ZJ.f 7
          refine wpAnyH_ready (rs := [9]) (by kernel_rfl) (by simp) (AllReadyH.cons rfl (fun K hK => ?_) AllReadyH.nil)
          go_simp
          have LF := laid_fr (a := a) (q := q) (t := t) (m := m) (r := r) (s := s) (k := k) ZJ O8 hn hJ bb
          clear rc0 rf0 rc1 rf1 rc2 rf2 rc3 rf3 rc4 rf4 rc5 rf5 rc6 rf6 rc7 rf7
          refine hK.out _ _ ?_ (fun hHeld => ?_)
          · exact ⟨desc_cells (A0.out.below (below_two H.below LF.2.2.2.2) A0.out.lt), state_cells8 (B0.out.below (below_two H.below LF.2.2.2.2) B0.out.lt)⟩
          clear hK K
          try simp only [List.getElem_toArray, List.getElem_cons_succ, List.getElem_cons_zero, Act.put, List.setIfInBounds_toArray, List.set_cons_zero, List.set_cons_succ]
          refine wpAnyH_take (i := 10) (v := ?_) rfl (by kernel_rfl) (by kernel_rfl) (by kernel_rfl) (fun _ _ _ h => h) (Or.inl ⟨by rfl, ?_⟩) (by assumption) ?_
          rotate_left
          · (intro w hSw; (try dsimp only at hSw); go_simp; (try with_reducible rfl))
          try simp only [List.getElem_toArray, List.getElem_cons_succ, List.getElem_cons_zero, Act.put, List.setIfInBounds_toArray, List.set_cons_zero, List.set_cons_succ]
          refine wpAnyH_done (by kernel_rfl) ?_ _
          go_wp2_with fail
          go_meet
          exact ⟨_, rfl, J, p8, c8, rfl, rfl, LF⟩
      case rest =>
        obtain ⟨w6, rfl, bX, p6, c6, rfl, rfl, X, o6, hnX, hjj6, b6⟩ := hcut
        have loXW := above_box o6 W.lt
        have loXG := above_box o6 G.lt
        replace W := W.below b6 W.lt
        replace G := G.below b6 G.lt
        replace H := H.make o6 b6
        clear o6 b6 hjj6
        obtain ⟨x0', x1', x2', x3', x4', x5', x6', x7'⟩ := frame_cells X
        obtain ⟨w0', w1', w2', w3', w4', w5', w6', w7'⟩ := frame_cells W
        go_wp2_with fail
        clear x0' x1' x2' x3' x4' x5' x6' x7' w0' w1' w2' w3' w4' w5' w6' w7'
        refine (eqFrame_yes _ _ _ _ _ _ _ _ _ _ _ _ _ (H.rd 0 rfl rfl) (H.rd 2 rfl rfl) hdl).mono ?_
        rintro e w7 ⟨rfl, b7⟩
        replace W := W.below b7 W.lt
        replace G := G.below b7 G.lt
        replace X := X.below b7 X.lt
        replace H := H.still b7
        clear b7
        obtain ⟨g0', g1', g2', g3', g4', g5', g6', g7'⟩ := frame_cells G
        go_wp2_with fail
        clear g0' g1' g2' g3' g4' g5' g6' g7'
        refine (heldFrame_yes _ _ _ _ _ _ _ _ _ _ _ _ (H.rd 1 rfl (marks_len _ _)) (by omega) (by omega) (by omega)).mono ?_
        rintro e w8 ⟨rfl, b8⟩
        replace W := W.below b8 W.lt
        replace G := G.below b8 G.lt
        replace X := X.below b8 X.lt
        replace H := H.still b8
        clear b8
        go_wp2_with fail
        go_ret
        exact ⟨rfl, HW0.out.trans (H.below.mono HW0.out.size)⟩
end Go.Proofs.Ytbdfnkhmnglpbaa.fnExactEmptyFrame
