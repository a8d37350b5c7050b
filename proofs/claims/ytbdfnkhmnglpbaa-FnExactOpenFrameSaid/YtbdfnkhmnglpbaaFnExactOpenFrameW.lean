/-
  The walk of laws.FnExactOpenFrame: at every input it returns true and writes nothing that was there.
-/
import Derived.Test.YtbdfnkhmnglpbaaRows
import Derived.Test.YtbdfnkhmnglpbaaH8
import Derived.Test.YtbdfnkhmnglpbaaBase
import Derived.Test.YtbdfnkhmnglpbaaFourA
import Derived.WalkKit
import Derived.ProofKit
import Derived.OpenShut
import Derived.ShutString
import Derived.ChangeOld
import Derived.Below
import Derived.Lib.SmallJoins
namespace Go.Proofs.Ytbdfnkhmnglpbaa.fnExactOpenFrame
open Go.ChangeShapes Go.WideShapes Go.ChangeAt Go.RowKit Go.Joins
open Go.ChangeMaps (open_string shut_string)
set_option linter.unusedVariables false
/-- A slice of integers that came in: nil, or a row of 'cap' cells that hold the numbers 'zs', each fitting its kind. -/
def IsRow (k : IntKind) (w : World) (a : Option Addr) (len cap : Nat) (zs : List Int) : Prop :=
  (a = none ∧ len = 0 ∧ cap = 0 ∧ zs = []) ∨
  ∃ x, a = some x ∧ len ≤ cap ∧ cap ≤ maxLen ∧ zs.length = cap ∧ (∀ i, i < zs.length → w.cell? (x.add i) = some (.int k (zs.getD i 0))) ∧ ∀ n ∈ zs, (Lit.int k n).wf = true

set_option linter.unusedSimpArgs false in set_option maxHeartbeats 2000000 in set_option maxRecDepth 100000 in
theorem walk (a0 : Option Addr) (len0 cap0 : Nat) (z0 : List Int) (a1 : Int) (s2_0 : Int) (s2_1 : Int) (s2_2 : Int) (s2_3 : Int) (s2_4 : Int) (w : World) (w0 : IsRow .i64 w a0 len0 cap0 z0) (w1 : (Lit.int .i64 a1).wf = true) (w2_0 : (Lit.int .i64 s2_0).wf = true) (w2_1 : (Lit.int .i64 s2_1).wf = true) (w2_2 : (Lit.int .i64 s2_2).wf = true) (w2_3 : (Lit.int .i64 s2_3).wf = true) (w2_4 : (Lit.int .i64 s2_4).wf = true) :
    Calls Try.prog 9 #[.slice a0 len0 cap0, .int .i64 a1, .agg #[.int .i64 s2_0, .int .i64 s2_1, .int .i64 s2_2, .int .i64 s2_3, .int .i64 s2_4]] w fun e w' => e = .returned (.bool true) ∧ Below w.heap.size w w' := by
  have hr := rd_of_row w0
  clear w0
  generalize List.take len0 z0 = xs at hr
  obtain rfl : xs.length = len0 := hr.len
  clear w2_0 w2_1 w2_2 w2_3 w2_4
  have hB0 : StateAt 64 (w.alloc (.cells #[.int .i64 s2_0, .int .i64 s2_1, .int .i64 s2_2, .int .i64 s2_3, .int .i64 s2_4] 64)) w.heap.size s2_0 s2_1 s2_2 s2_3 s2_4 := StateAt.new w
  have hW0 : Below w.heap.size w (w.alloc (.cells #[.int .i64 s2_0, .int .i64 s2_1, .int .i64 s2_2, .int .i64 s2_3, .int .i64 s2_4] 64)) := (Below.refl _ _).alloc (Nat.le_refl _) _
  have B0 := Lib.hid hB0; have HW0 := Lib.hid hW0; clear hB0 hW0
  by_cases hbig : xs.length ≤ 1048576
  rotate_left
  · go_enter Try.func9, Try.ntmps9
    go_wp2
    go_ret
    exact ⟨rfl, HW0.out⟩
  obtain ⟨⟨a, q, t, m, r, s, k, d⟩, z, hF⟩ : ∃ f z, openFrame xs a1 s2_0 s2_1 s2_2 s2_3 s2_4 = (f, z) := ⟨_, _, rfl⟩
  have hdl : d.length ≤ 1048576 := by have h := openFrame_data xs a1 s2_0 s2_1 s2_2 s2_3 s2_4; rw [hF] at h; simp only at h; omega
  have HF := Lib.hid hF; clear hF
  replace hr := hr.below HW0.out
  have H : Held 2 (w.alloc (.cells #[.int .i64 s2_0, .int .i64 s2_1, .int .i64 s2_2, .int .i64 s2_3, .int .i64 s2_4] 64)) (w.alloc (.cells #[.int .i64 s2_0, .int .i64 s2_1, .int .i64 s2_2, .int .i64 s2_3, .int .i64 s2_4] 64)) [] := Held.start
  go_enter Try.func9, Try.ntmps9
  go_upto_region 1 with fail
  generalize w.alloc (.cells #[.int .i64 s2_0, .int .i64 s2_1, .int .i64 s2_2, .int .i64 s2_3, .int .i64 s2_4] 64) = wb at B0 HW0 hr H ⊢
  go_upto_region 3 with fail
  go_cut [7, 8] (fun s7 s8 wx => ∃ wy, wy = wx ∧ ∃ J p8 c8, s7 = .pointer (some ⟨J, 0, none⟩) ∧ s8 = .int .i64 z ∧ LaidFrame wb wy J a q t m r s k d p8 c8)
  case first =>
    have bb : Below wb.heap.size wb wb.drew := Below.drew (Below.refl _ _)
    refine wp_region_held_drew (S := fun w' => w'.cell? ⟨w.heap.size, 0, none⟩ = some (.int .i64 s2_0) ∧ w'.cell? ⟨w.heap.size, 1, none⟩ = some (.int .i64 s2_1) ∧ w'.cell? ⟨w.heap.size, 2, none⟩ = some (.int .i64 s2_2) ∧ w'.cell? ⟨w.heap.size, 3, none⟩ = some (.int .i64 s2_3) ∧ w'.cell? ⟨w.heap.size, 4, none⟩ = some (.int .i64 s2_4)) (by kernel_rfl) (state_cells (B0.out.below (below_two H.below bb) B0.out.lt)) (fun hHeld => ?_)
    generalize wb.drew = wd at bb hHeld ⊢
    refine wpAnyH_take (i := 0) (v := ?_) rfl (by kernel_rfl) (by kernel_rfl) (by kernel_rfl) (fun _ _ _ h => h) (Or.inl ⟨by rfl, ?_⟩) (by assumption) ?_
    rotate_left
    · (intro w hSw; (try dsimp only at hSw); go_simp; (try with_reducible rfl))
    try simp only [List.getElem_toArray, List.getElem_cons_succ, List.getElem_cons_zero, Act.put, List.setIfInBounds_toArray, List.set_cons_zero, List.set_cons_succ]
    refine wpAnyH_take (i := 2) (v := ?_) rfl (by kernel_rfl) (by kernel_rfl) (by kernel_rfl) (fun _ _ _ h => h) (Or.inl ⟨by rfl, ?_⟩) (by assumption) ?_
    rotate_left
    · (intro w hSw; (try dsimp only at hSw); go_simp; (try with_reducible rfl))
    try simp only [List.getElem_toArray, List.getElem_cons_succ, List.getElem_cons_zero, Act.put, List.setIfInBounds_toArray, List.set_cons_zero, List.set_cons_succ]
    refine wpAnyH_take (i := 3) (v := ?_) rfl (by kernel_rfl) (by kernel_rfl) (by kernel_rfl) (fun _ _ _ h => h) (Or.inl ⟨by rfl, ?_⟩) (by assumption) ?_
    rotate_left
    · (intro w hSw; (try dsimp only at hSw); go_simp; (try with_reducible rfl))
    try simp only [List.getElem_toArray, List.getElem_cons_succ, List.getElem_cons_zero, Act.put, List.setIfInBounds_toArray, List.set_cons_zero, List.set_cons_succ]
    refine wpAnyH_ready (rs := [1, 9]) (by kernel_rfl) (by simp) (AllReadyH.cons rfl (fun K hK => ?_) (AllReadyH.cons rfl (fun K hK => ?_) AllReadyH.nil))
    · go_simp
      refine (toInt_any _ _ _ _ _ (hr.below (below_two H.below bb)) hbig).mono ?_
      rintro e wa ma
      obtain ⟨pa, ca, rfl, oa, -, ba⟩ := ma.get
      clear ma
      have OA := oa.more bb.size
      replace bb := below_two bb ba
      clear oa ba
      go_wp2_with fail
      refine hK.out _ _ ?_ (fun hHeld => ?_)
      · exact state_cells (B0.out.below (below_two H.below bb) B0.out.lt)
      clear hK K
      try simp only [List.getElem_toArray, List.getElem_cons_succ, List.getElem_cons_zero, Act.put, List.setIfInBounds_toArray, List.set_cons_zero, List.set_cons_succ]
      refine wpAnyH_ready (rs := [4, 9]) (by kernel_rfl) (by simp) (AllReadyH.cons rfl (fun K hK => ?_) (AllReadyH.cons rfl (fun K hK => ?_) AllReadyH.nil))
      · go_simp
        refine (toState_any _ _ _ _ _ _).mono ?_
        rintro e wc ⟨rfl, bc⟩
        replace OA := OA.below bc
        replace bb := below_two bb bc
        clear bc
        go_wp2_with fail
        refine hK.out _ _ ?_ (fun hHeld => ?_)
        · exact state_cells (B0.out.below (below_two H.below bb) B0.out.lt)
        clear hK K
        try simp only [List.getElem_toArray, List.getElem_cons_succ, List.getElem_cons_zero, Act.put, List.setIfInBounds_toArray, List.set_cons_zero, List.set_cons_succ]
        refine wpAnyH_ready (rs := [5, 9]) (by kernel_rfl) (by simp) (AllReadyH.cons rfl (fun K hK => ?_) (AllReadyH.cons rfl (fun K hK => ?_) AllReadyH.nil))
        · go_simp
          obtain ⟨_, _, ea, _, ra⟩ := OA.get
          cases ea
          refine (sOpenFrame_any _ _ _ _ _ _ _ _ _ _ ra hbig (Own.cap OA).1 (Own.cap OA).2).mono ?_
          intro e w8 h8
          rw [HF.out] at h8
          obtain ⟨p8, c8, rfl, o8, b8⟩ := h8
          simp only at o8 ⊢
          have O8 := o8.more bb.size
          replace bb := below_two bb b8
          clear o8 b8 ra OA
          go_wp2_with fail
          refine hK.out _ _ ?_ (fun hHeld => ?_)
          · exact state_cells (B0.out.below (below_two H.below bb) B0.out.lt)
          clear hK K
          try simp only [List.getElem_toArray, List.getElem_cons_succ, List.getElem_cons_zero, Act.put, List.setIfInBounds_toArray, List.set_cons_zero, List.set_cons_succ]
          refine wpAnyH_take (i := 6) (v := ?_) rfl (by kernel_rfl) (by kernel_rfl) (by kernel_rfl) (fun _ _ _ h => h) (Or.inl ⟨by rfl, ?_⟩) (by assumption) ?_
          rotate_left
          · (intro w hSw; (try dsimp only at hSw); go_simp; (try with_reducible rfl))
          try simp only [List.getElem_toArray, List.getElem_cons_succ, List.getElem_cons_zero, Act.put, List.setIfInBounds_toArray, List.set_cons_zero, List.set_cons_succ]
          refine wpAnyH_take (i := 7) (v := ?_) rfl (by kernel_rfl) (by kernel_rfl) (by kernel_rfl) (fun _ _ _ h => h) (Or.inl ⟨by rfl, ?_⟩) (by assumption) ?_
          rotate_left
          · (intro w hSw; (try dsimp only at hSw); go_simp; (try with_reducible rfl))
          try simp only [List.getElem_toArray, List.getElem_cons_succ, List.getElem_cons_zero, Act.put, List.setIfInBounds_toArray, List.set_cons_zero, List.set_cons_succ]
          refine wpAnyH_take (i := 8) (v := ?_) rfl (by kernel_rfl) (by kernel_rfl) (by kernel_rfl) (fun _ _ _ h => h) (Or.inl ⟨by rfl, ?_⟩) (by assumption) ?_
          rotate_left
          · (intro w hSw; (try dsimp only at hSw); go_simp; (try with_reducible rfl))
          try simp only [List.getElem_toArray, List.getElem_cons_succ, List.getElem_cons_zero, Act.put, List.setIfInBounds_toArray, List.set_cons_zero, List.set_cons_succ]
          refine wpAnyH_ready (rs := [9]) (by kernel_rfl) (by simp) (AllReadyH.cons rfl (fun K hK => ?_) AllReadyH.nil)
          go_simp
          have bal := Below.alloc (Below.refl w8.heap.size w8) (Nat.le_refl _) (.cells #[.int .i64 0, .int .i64 0, .int .i64 0, .int .i64 0, .int .i64 0, .int .i64 0, .int .i64 0, .slice none 0 0] 28)
          have ZJ := FrameAt.new (T := 28) (a := 0) (q := 0) (t := 0) (m := 0) (r := 0) (s := 0) (k := 0) (v := .slice none 0 0) w8
          have hJ : wb.heap.size ≤ w8.heap.size := bb.size
          have hn := own_under O8
          replace O8 := O8.below bal
          replace bb := below_two bb bal
          clear bal
          obtain ⟨J, eJ⟩ : ∃ J, J = w8.heap.size := ⟨_, rfl⟩
          rw [← eJ] at ZJ hJ hn ⊢
          clear eJ
          generalize w8.alloc (.cells #[.int .i64 0, .int .i64 0, .int .i64 0, .int .i64 0, .int .i64 0, .int .i64 0, .int .i64 0, .slice none 0 0] 28) = wl at ZJ bb O8 ⊢
          refine hK.out _ _ ?_ (fun hHeld => ?_)
          · exact state_cells (B0.out.below (below_two H.below bb) B0.out.lt)
          clear hK K
          try simp only [List.getElem_toArray, List.getElem_cons_succ, List.getElem_cons_zero, Act.put, List.setIfInBounds_toArray, List.set_cons_zero, List.set_cons_succ]
          have rc0 := ZJ.c0
          have rc1 := ZJ.c1
          have rc2 := ZJ.c2
          have rc3 := ZJ.c3
          have rc4 := ZJ.c4
          have rc5 := ZJ.c5
          have rc6 := ZJ.c6
          have rc7 := ZJ.c7
          have rf0 := ZJ.f 0
          have rf1 := ZJ.f 1
          have rf2 := ZJ.f 2
          have rf3 := ZJ.f 3
          have rf4 := ZJ.f 4
          have rf5 := ZJ.f 5
          have rf6 := ZJ.f 6
          have rf7 := ZJ.f 7
          refine wpAnyH_ready (rs := [10]) (by kernel_rfl) (by simp) (AllReadyH.cons rfl (fun K hK => ?_) AllReadyH.nil)
          go_simp
          have LF := laid_store (a := a) (q := q) (t := t) (m := m) (r := r) (s := s) (k := k) ZJ O8 hn hJ bb
          clear rc0 rf0 rc1 rf1 rc2 rf2 rc3 rf3 rc4 rf4 rc5 rf5 rc6 rf6 rc7 rf7
          refine hK.out _ _ ?_ (fun hHeld => ?_)
          · exact state_cells (B0.out.below (below_two H.below LF.2.2.2) B0.out.lt)
          clear hK K
          try simp only [List.getElem_toArray, List.getElem_cons_succ, List.getElem_cons_zero, Act.put, List.setIfInBounds_toArray, List.set_cons_zero, List.set_cons_succ]
          refine wpAnyH_take (i := 11) (v := ?_) rfl (by kernel_rfl) (by kernel_rfl) (by kernel_rfl) (fun _ _ _ h => h) (Or.inl ⟨by rfl, ?_⟩) (by assumption) ?_
          rotate_left
          · (intro w hSw; (try dsimp only at hSw); go_simp; (try with_reducible rfl))
          try simp only [List.getElem_toArray, List.getElem_cons_succ, List.getElem_cons_zero, Act.put, List.setIfInBounds_toArray, List.set_cons_zero, List.set_cons_succ]
          refine wpAnyH_done (by kernel_rfl) ?_ _
          go_wp2_with fail
          go_meet
          exact ⟨_, rfl, J, p8, c8, rfl, rfl, LF⟩
        · go_simp
          have bal := Below.alloc (Below.refl wc.heap.size wc) (Nat.le_refl _) (.cells #[.int .i64 0, .int .i64 0, .int .i64 0, .int .i64 0, .int .i64 0, .int .i64 0, .int .i64 0, .slice none 0 0] 28)
          have ZJ := FrameAt.new (T := 28) (a := 0) (q := 0) (t := 0) (m := 0) (r := 0) (s := 0) (k := 0) (v := .slice none 0 0) wc
          have hJ : wb.heap.size ≤ wc.heap.size := bb.size
          replace OA := OA.below bal
          replace bb := below_two bb bal
          clear bal
          obtain ⟨J, eJ⟩ : ∃ J, J = wc.heap.size := ⟨_, rfl⟩
          rw [← eJ] at ZJ hJ ⊢
          clear eJ
          generalize wc.alloc (.cells #[.int .i64 0, .int .i64 0, .int .i64 0, .int .i64 0, .int .i64 0, .int .i64 0, .int .i64 0, .slice none 0 0] 28) = wl at ZJ bb OA ⊢
          refine hK.out _ _ ?_ (fun hHeld => ?_)
          · exact state_cells (B0.out.below (below_two H.below bb) B0.out.lt)
          clear hK K
          try simp only [List.getElem_toArray, List.getElem_cons_succ, List.getElem_cons_zero, Act.put, List.setIfInBounds_toArray, List.set_cons_zero, List.set_cons_succ]
          refine wpAnyH_ready (rs := [5]) (by kernel_rfl) (by simp) (AllReadyH.cons rfl (fun K hK => ?_) AllReadyH.nil)
          go_simp
          obtain ⟨_, _, ea, _, ra⟩ := OA.get
          cases ea
          refine (sOpenFrame_any _ _ _ _ _ _ _ _ _ _ ra hbig (Own.cap OA).1 (Own.cap OA).2).mono ?_
          intro e w8 h8
          rw [HF.out] at h8
          obtain ⟨p8, c8, rfl, o8, b8⟩ := h8
          simp only at o8 ⊢
          have hn := own_above o8 ZJ.lt
          replace ZJ := ZJ.below b8 ZJ.lt
          have O8 := o8.more bb.size
          replace bb := below_two bb b8
          clear o8 b8 ra OA
          go_wp2_with fail
          refine hK.out _ _ ?_ (fun hHeld => ?_)
          · exact state_cells (B0.out.below (below_two H.below bb) B0.out.lt)
          clear hK K
          try simp only [List.getElem_toArray, List.getElem_cons_succ, List.getElem_cons_zero, Act.put, List.setIfInBounds_toArray, List.set_cons_zero, List.set_cons_succ]
          refine wpAnyH_take (i := 6) (v := ?_) rfl (by kernel_rfl) (by kernel_rfl) (by kernel_rfl) (fun _ _ _ h => h) (Or.inl ⟨by rfl, ?_⟩) (by assumption) ?_
          rotate_left
          · (intro w hSw; (try dsimp only at hSw); go_simp; (try with_reducible rfl))
          try simp only [List.getElem_toArray, List.getElem_cons_succ, List.getElem_cons_zero, Act.put, List.setIfInBounds_toArray, List.set_cons_zero, List.set_cons_succ]
          refine wpAnyH_take (i := 7) (v := ?_) rfl (by kernel_rfl) (by kernel_rfl) (by kernel_rfl) (fun _ _ _ h => h) (Or.inl ⟨by rfl, ?_⟩) (by assumption) ?_
          rotate_left
          · (intro w hSw; (try dsimp only at hSw); go_simp; (try with_reducible rfl))
          try simp only [List.getElem_toArray, List.getElem_cons_succ, List.getElem_cons_zero, Act.put, List.setIfInBounds_toArray, List.set_cons_zero, List.set_cons_succ]
          refine wpAnyH_take (i := 8) (v := ?_) rfl (by kernel_rfl) (by kernel_rfl) (by kernel_rfl) (fun _ _ _ h => h) (Or.inl ⟨by rfl, ?_⟩) (by assumption) ?_
          rotate_left
          · (intro w hSw; (try dsimp only at hSw); go_simp; (try with_reducible rfl))
          try simp only [List.getElem_toArray, List.getElem_cons_succ, List.getElem_cons_zero, Act.put, List.setIfInBounds_toArray, List.set_cons_zero, List.set_cons_succ]
          have rc0 := ZJ.c0
          have rc1 := ZJ.c1
          have rc2 := ZJ.c2
          have rc3 := ZJ.c3
          have rc4 := ZJ.c4
          have rc5 := ZJ.c5
          have rc6 := ZJ.c6
          have rc7 := ZJ.c7
          have rf0 := ZJ.f 0
          have rf1 := ZJ.f 1
          have rf2 := ZJ.f 2
          have rf3 := ZJ.f 3
          have rf4 := ZJ.f 4
          have rf5 := ZJ.f 5
          have rf6 := ZJ.f 6
          have rf7 := ZJ.f 7
          refine wpAnyH_ready (rs := [10]) (by kernel_rfl) (by simp) (AllReadyH.cons rfl (fun K hK => ?_) AllReadyH.nil)
          go_simp
          have LF := laid_store (a := a) (q := q) (t := t) (m := m) (r := r) (s := s) (k := k) ZJ O8 hn hJ bb
          clear rc0 rf0 rc1 rf1 rc2 rf2 rc3 rf3 rc4 rf4 rc5 rf5 rc6 rf6 rc7 rf7
          refine hK.out _ _ ?_ (fun hHeld => ?_)
          · exact state_cells (B0.out.below (below_two H.below LF.2.2.2) B0.out.lt)
          clear hK K
          try simp only [List.getElem_toArray, List.getElem_cons_succ, List.getElem_cons_zero, Act.put, List.setIfInBounds_toArray, List.set_cons_zero, List.set_cons_succ]
          refine wpAnyH_take (i := 11) (v := ?_) rfl (by kernel_rfl) (by kernel_rfl) (by kernel_rfl) (fun _ _ _ h => h) (Or.inl ⟨by rfl, ?_⟩) (by assumption) ?_
          rotate_left
          · (intro w hSw; (try dsimp only at hSw); go_simp; (try with_reducible rfl))
          try simp only [List.getElem_toArray, List.getElem_cons_succ, List.getElem_cons_zero, Act.put, List.setIfInBounds_toArray, List.set_cons_zero, List.set_cons_succ]
          refine wpAnyH_done (by kernel_rfl) ?_ _
          go_wp2_with fail
          go_meet
          exact ⟨_, rfl, J, p8, c8, rfl, rfl, LF⟩
      · go_simp
        have bal := Below.alloc (Below.refl wa.heap.size wa) (Nat.le_refl _) (.cells #[.int .i64 0, .int .i64 0, .int .i64 0, .int .i64 0, .int .i64 0, .int .i64 0, .int .i64 0, .slice none 0 0] 28)
        have ZJ := FrameAt.new (T := 28) (a := 0) (q := 0) (t := 0) (m := 0) (r := 0) (s := 0) (k := 0) (v := .slice none 0 0) wa
        have hJ : wb.heap.size ≤ wa.heap.size := bb.size
        replace OA := OA.below bal
        replace bb := below_two bb bal
        clear bal
        obtain ⟨J, eJ⟩ : ∃ J, J = wa.heap.size := ⟨_, rfl⟩
        rw [← eJ] at ZJ hJ ⊢
        clear eJ
        generalize wa.alloc (.cells #[.int .i64 0, .int .i64 0, .int .i64 0, .int .i64 0, .int .i64 0, .int .i64 0, .int .i64 0, .slice none 0 0] 28) = wl at ZJ bb OA ⊢
        refine hK.out _ _ ?_ (fun hHeld => ?_)
        · exact state_cells (B0.out.below (below_two H.below bb) B0.out.lt)
        clear hK K
        try simp only [List.getElem_toArray, List.getElem_cons_succ, List.getElem_cons_zero, Act.put, List.setIfInBounds_toArray, List.set_cons_zero, List.set_cons_succ]
        refine wpAnyH_ready (rs := [4]) (by kernel_rfl) (by simp) (AllReadyH.cons rfl (fun K hK => ?_) AllReadyH.nil)
        go_simp
        refine (toState_any _ _ _ _ _ _).mono ?_
        rintro e wc ⟨rfl, bc⟩
        replace ZJ := ZJ.below bc ZJ.lt
        replace OA := OA.below bc
        replace bb := below_two bb bc
        clear bc
        go_wp2_with fail
        refine hK.out _ _ ?_ (fun hHeld => ?_)
        · exact state_cells (B0.out.below (below_two H.below bb) B0.out.lt)
        clear hK K
        try simp only [List.getElem_toArray, List.getElem_cons_succ, List.getElem_cons_zero, Act.put, List.setIfInBounds_toArray, List.set_cons_zero, List.set_cons_succ]
        refine wpAnyH_ready (rs := [5]) (by kernel_rfl) (by simp) (AllReadyH.cons rfl (fun K hK => ?_) AllReadyH.nil)
        go_simp
        obtain ⟨_, _, ea, _, ra⟩ := OA.get
        cases ea
        refine (sOpenFrame_any _ _ _ _ _ _ _ _ _ _ ra hbig (Own.cap OA).1 (Own.cap OA).2).mono ?_
        intro e w8 h8
        rw [HF.out] at h8
        obtain ⟨p8, c8, rfl, o8, b8⟩ := h8
        simp only at o8 ⊢
        have hn := own_above o8 ZJ.lt
        replace ZJ := ZJ.below b8 ZJ.lt
        have O8 := o8.more bb.size
        replace bb := below_two bb b8
        clear o8 b8 ra OA
        go_wp2_with fail
        refine hK.out _ _ ?_ (fun hHeld => ?_)
        · exact state_cells (B0.out.below (below_two H.below bb) B0.out.lt)
        clear hK K
        try simp only [List.getElem_toArray, List.getElem_cons_succ, List.getElem_cons_zero, Act.put, List.setIfInBounds_toArray, List.set_cons_zero, List.set_cons_succ]
        refine wpAnyH_take (i := 6) (v := ?_) rfl (by kernel_rfl) (by kernel_rfl) (by kernel_rfl) (fun _ _ _ h => h) (Or.inl ⟨by rfl, ?_⟩) (by assumption) ?_
        rotate_left
        · (intro w hSw; (try dsimp only at hSw); go_simp; (try with_reducible rfl))
        try simp only [List.getElem_toArray, List.getElem_cons_succ, List.getElem_cons_zero, Act.put, List.setIfInBounds_toArray, List.set_cons_zero, List.set_cons_succ]
        refine wpAnyH_take (i := 7) (v := ?_) rfl (by kernel_rfl) (by kernel_rfl) (by kernel_rfl) (fun _ _ _ h => h) (Or.inl ⟨by rfl, ?_⟩) (by assumption) ?_
        rotate_left
        · (intro w hSw; (try dsimp only at hSw); go_simp; (try with_reducible rfl))
        try simp only [List.getElem_toArray, List.getElem_cons_succ, List.getElem_cons_zero, Act.put, List.setIfInBounds_toArray, List.set_cons_zero, List.set_cons_succ]
        refine wpAnyH_take (i := 8) (v := ?_) rfl (by kernel_rfl) (by kernel_rfl) (by kernel_rfl) (fun _ _ _ h => h) (Or.inl ⟨by rfl, ?_⟩) (by assumption) ?_
        rotate_left
        · (intro w hSw; (try dsimp only at hSw); go_simp; (try with_reducible rfl))
        try simp only [List.getElem_toArray, List.getElem_cons_succ, List.getElem_cons_zero, Act.put, List.setIfInBounds_toArray, List.set_cons_zero, List.set_cons_succ]
        have rc0 := ZJ.c0
        have rc1 := ZJ.c1
        have rc2 := ZJ.c2
        have rc3 := ZJ.c3
        have rc4 := ZJ.c4
        have rc5 := ZJ.c5
        have rc6 := ZJ.c6
        have rc7 := ZJ.c7
        have rf0 := ZJ.f 0
        have rf1 := ZJ.f 1
        have rf2 := ZJ.f 2
        have rf3 := ZJ.f 3
        have rf4 := ZJ.f 4
        have rf5 := ZJ.f 5
        have rf6 := ZJ.f 6
        have rf7 := ZJ.f 7
        refine wpAnyH_ready (rs := [10]) (by kernel_rfl) (by simp) (AllReadyH.cons rfl (fun K hK => ?_) AllReadyH.nil)
        go_simp
        have LF := laid_store (a := a) (q := q) (t := t) (m := m) (r := r) (s := s) (k := k) ZJ O8 hn hJ bb
        clear rc0 rf0 rc1 rf1 rc2 rf2 rc3 rf3 rc4 rf4 rc5 rf5 rc6 rf6 rc7 rf7
        refine hK.out _ _ ?_ (fun hHeld => ?_)
        · exact state_cells (B0.out.below (below_two H.below LF.2.2.2) B0.out.lt)
        clear hK K
        try simp only [List.getElem_toArray, List.getElem_cons_succ, List.getElem_cons_zero, Act.put, List.setIfInBounds_toArray, List.set_cons_zero, List.set_cons_succ]
        refine wpAnyH_take (i := 11) (v := ?_) rfl (by kernel_rfl) (by kernel_rfl) (by kernel_rfl) (fun _ _ _ h => h) (Or.inl ⟨by rfl, ?_⟩) (by assumption) ?_
        rotate_left
        · (intro w hSw; (try dsimp only at hSw); go_simp; (try with_reducible rfl))
        try simp only [List.getElem_toArray, List.getElem_cons_succ, List.getElem_cons_zero, Act.put, List.setIfInBounds_toArray, List.set_cons_zero, List.set_cons_succ]
        refine wpAnyH_done (by kernel_rfl) ?_ _
        go_wp2_with fail
        go_meet
        exact ⟨_, rfl, J, p8, c8, rfl, rfl, LF⟩
    · go_simp
      have bal := Below.alloc (Below.refl wd.heap.size wd) (Nat.le_refl _) (.cells #[.int .i64 0, .int .i64 0, .int .i64 0, .int .i64 0, .int .i64 0, .int .i64 0, .int .i64 0, .slice none 0 0] 28)
      have ZJ := FrameAt.new (T := 28) (a := 0) (q := 0) (t := 0) (m := 0) (r := 0) (s := 0) (k := 0) (v := .slice none 0 0) wd
      have hJ : wb.heap.size ≤ wd.heap.size := bb.size
      replace bb := below_two bb bal
      clear bal
      obtain ⟨J, eJ⟩ : ∃ J, J = wd.heap.size := ⟨_, rfl⟩
      rw [← eJ] at ZJ hJ ⊢
      clear eJ
      generalize wd.alloc (.cells #[.int .i64 0, .int .i64 0, .int .i64 0, .int .i64 0, .int .i64 0, .int .i64 0, .int .i64 0, .slice none 0 0] 28) = wl at ZJ bb ⊢
      refine hK.out _ _ ?_ (fun hHeld => ?_)
      · exact state_cells (B0.out.below (below_two H.below bb) B0.out.lt)
      clear hK K
      try simp only [List.getElem_toArray, List.getElem_cons_succ, List.getElem_cons_zero, Act.put, List.setIfInBounds_toArray, List.set_cons_zero, List.set_cons_succ]
      refine wpAnyH_ready (rs := [1]) (by kernel_rfl) (by simp) (AllReadyH.cons rfl (fun K hK => ?_) AllReadyH.nil)
      go_simp
      refine (toInt_any _ _ _ _ _ (hr.below (below_two H.below bb)) hbig).mono ?_
      rintro e wa ma
      obtain ⟨pa, ca, rfl, oa, -, ba⟩ := ma.get
      clear ma
      replace ZJ := ZJ.below ba ZJ.lt
      have OA := oa.more bb.size
      replace bb := below_two bb ba
      clear oa ba
      go_wp2_with fail
      refine hK.out _ _ ?_ (fun hHeld => ?_)
      · exact state_cells (B0.out.below (below_two H.below bb) B0.out.lt)
      clear hK K
      try simp only [List.getElem_toArray, List.getElem_cons_succ, List.getElem_cons_zero, Act.put, List.setIfInBounds_toArray, List.set_cons_zero, List.set_cons_succ]
      refine wpAnyH_ready (rs := [4]) (by kernel_rfl) (by simp) (AllReadyH.cons rfl (fun K hK => ?_) AllReadyH.nil)
      go_simp
      refine (toState_any _ _ _ _ _ _).mono ?_
      rintro e wc ⟨rfl, bc⟩
      replace ZJ := ZJ.below bc ZJ.lt
      replace OA := OA.below bc
      replace bb := below_two bb bc
      clear bc
      go_wp2_with fail
      refine hK.out _ _ ?_ (fun hHeld => ?_)
      · exact state_cells (B0.out.below (below_two H.below bb) B0.out.lt)
      clear hK K
      try simp only [List.getElem_toArray, List.getElem_cons_succ, List.getElem_cons_zero, Act.put, List.setIfInBounds_toArray, List.set_cons_zero, List.set_cons_succ]
      refine wpAnyH_ready (rs := [5]) (by kernel_rfl) (by simp) (AllReadyH.cons rfl (fun K hK => ?_) AllReadyH.nil)
      go_simp
      obtain ⟨_, _, ea, _, ra⟩ := OA.get
      cases ea
      refine (sOpenFrame_any _ _ _ _ _ _ _ _ _ _ ra hbig (Own.cap OA).1 (Own.cap OA).2).mono ?_
      intro e w8 h8
      rw [HF.out] at h8
      obtain ⟨p8, c8, rfl, o8, b8⟩ := h8
      simp only at o8 ⊢
      have hn := own_above o8 ZJ.lt
      replace ZJ := ZJ.below b8 ZJ.lt
      have O8 := o8.more bb.size
      replace bb := below_two bb b8
      clear o8 b8 ra OA
      go_wp2_with fail
      refine hK.out _ _ ?_ (fun hHeld => ?_)
      · exact state_cells (B0.out.below (below_two H.below bb) B0.out.lt)
      clear hK K
      try simp only [List.getElem_toArray, List.getElem_cons_succ, List.getElem_cons_zero, Act.put, List.setIfInBounds_toArray, List.set_cons_zero, List.set_cons_succ]
      refine wpAnyH_take (i := 6) (v := ?_) rfl (by kernel_rfl) (by kernel_rfl) (by kernel_rfl) (fun _ _ _ h => h) (Or.inl ⟨by rfl, ?_⟩) (by assumption) ?_
      rotate_left
      · (intro w hSw; (try dsimp only at hSw); go_simp; (try with_reducible rfl))
      try simp only [List.getElem_toArray, List.getElem_cons_succ, List.getElem_cons_zero, Act.put, List.setIfInBounds_toArray, List.set_cons_zero, List.set_cons_succ]
      refine wpAnyH_take (i := 7) (v := ?_) rfl (by kernel_rfl) (by kernel_rfl) (by kernel_rfl) (fun _ _ _ h => h) (Or.inl ⟨by rfl, ?_⟩) (by assumption) ?_
      rotate_left
      · (intro w hSw; (try dsimp only at hSw); go_simp; (try with_reducible rfl))
      try simp only [List.getElem_toArray, List.getElem_cons_succ, List.getElem_cons_zero, Act.put, List.setIfInBounds_toArray, List.set_cons_zero, List.set_cons_succ]
      refine wpAnyH_take (i := 8) (v := ?_) rfl (by kernel_rfl) (by kernel_rfl) (by kernel_rfl) (fun _ _ _ h => h) (Or.inl ⟨by rfl, ?_⟩) (by assumption) ?_
      rotate_left
      · (intro w hSw; (try dsimp only at hSw); go_simp; (try with_reducible rfl))
      try simp only [List.getElem_toArray, List.getElem_cons_succ, List.getElem_cons_zero, Act.put, List.setIfInBounds_toArray, List.set_cons_zero, List.set_cons_succ]
      have rc0 := ZJ.c0
      have rc1 := ZJ.c1
      have rc2 := ZJ.c2
      have rc3 := ZJ.c3
      have rc4 := ZJ.c4
      have rc5 := ZJ.c5
      have rc6 := ZJ.c6
      have rc7 := ZJ.c7
      have rf0 := ZJ.f 0
      have rf1 := ZJ.f 1
      have rf2 := ZJ.f 2
      have rf3 := ZJ.f 3
      have rf4 := ZJ.f 4
      have rf5 := ZJ.f 5
      have rf6 := ZJ.f 6
      have rf7 := ZJ.f 7
      refine wpAnyH_ready (rs := [10]) (by kernel_rfl) (by simp) (AllReadyH.cons rfl (fun K hK => ?_) AllReadyH.nil)
      go_simp
      have LF := laid_store (a := a) (q := q) (t := t) (m := m) (r := r) (s := s) (k := k) ZJ O8 hn hJ bb
      clear rc0 rf0 rc1 rf1 rc2 rf2 rc3 rf3 rc4 rf4 rc5 rf5 rc6 rf6 rc7 rf7
      refine hK.out _ _ ?_ (fun hHeld => ?_)
      · exact state_cells (B0.out.below (below_two H.below LF.2.2.2) B0.out.lt)
      clear hK K
      try simp only [List.getElem_toArray, List.getElem_cons_succ, List.getElem_cons_zero, Act.put, List.setIfInBounds_toArray, List.set_cons_zero, List.set_cons_succ]
      refine wpAnyH_take (i := 11) (v := ?_) rfl (by kernel_rfl) (by kernel_rfl) (by kernel_rfl) (fun _ _ _ h => h) (Or.inl ⟨by rfl, ?_⟩) (by assumption) ?_
      rotate_left
      · (intro w hSw; (try dsimp only at hSw); go_simp; (try with_reducible rfl))
      try simp only [List.getElem_toArray, List.getElem_cons_succ, List.getElem_cons_zero, Act.put, List.setIfInBounds_toArray, List.set_cons_zero, List.set_cons_succ]
      refine wpAnyH_done (by kernel_rfl) ?_ _
      go_wp2_with fail
      go_meet
      exact ⟨_, rfl, J, p8, c8, rfl, rfl, LF⟩
  case rest =>
    obtain ⟨w1, rfl, bW, p1, c1, rfl, rfl, W, o1, hjj1, b1⟩ := hcut
    replace H := H.make o1 b1
    clear o1 b1
    go_wp2_with fail
    refine (toInt_any _ _ _ _ _ (hr.below H.below) hbig).mono ?_
    rintro e w2 m2
    obtain ⟨p2, c2, rfl, o2, -, b2⟩ := m2.get
    clear m2
    have lox := above_box o2 W.lt
    replace W := W.below b2 W.lt
    replace H := H.make o2 b2
    clear o2 b2
    obtain ⟨d0, d1, d2, d3, d4⟩ := state_cells (B0.out.below H.below B0.out.lt)
    go_wp2_with fail
    clear d0 d1 d2 d3 d4
    refine (toState_any _ _ _ _ _ _).mono ?_
    rintro e w3 ⟨rfl, b3⟩
    replace W := W.below b3 W.lt
    replace H := H.still b3
    clear b3
    go_wp2_with fail
    refine (openFrame_any _ _ _ _ _ _ _ _ _ _ (H.rd 0 rfl rfl) hbig (Own.cap (H.get 0 rfl)).1 (Own.cap (H.get 0 rfl)).2).mono ?_
    intro e w4 h4
    rw [HF.out] at h4
    obtain ⟨p4, c4, rfl, o4, b4⟩ := h4
    (try clear h4)
    simp only at o4 ⊢
    have log := above_box o4 W.lt
    replace W := W.below b4 W.lt
    replace H := H.make o4 b4
    clear o4 b4
    have w0' := W.c0
    have w1' := W.c1
    have w2' := W.c2
    have w3' := W.c3
    have w4' := W.c4
    have w5' := W.c5
    have w6' := W.c6
    have w7' := W.c7
    have wl' := W.lt
    go_wp2_with fail
    clear w0' w1' w2' w3' w4' w5' w6' w7' wl'
    have hal : Below w4.heap.size w4 (w4.alloc (.cells #[.int .i64 a, .int .i64 q, .int .i64 t, .int .i64 m, .int .i64 r, .int .i64 s, .int .i64 k, .slice p4 d.length c4] 28)) := (Below.refl _ _).alloc (Nat.le_refl _) _
    have G := FrameAt.new (T := 28) (a := a) (q := q) (t := t) (m := m) (r := r) (s := s) (k := k) (v := .slice p4 d.length c4) w4
    have hix := below_size' (H.get 1 rfl)
    have hig := below_size' (H.get 0 rfl)
    replace W := W.below hal W.lt
    replace H := H.still hal
    clear hal
    obtain ⟨bG, hbG⟩ : ∃ b, b = w4.heap.size := ⟨_, rfl⟩
    rw [← hbG] at G hix hig ⊢
    clear hbG
    generalize w4.alloc (.cells #[.int .i64 a, .int .i64 q, .int .i64 t, .int .i64 m, .int .i64 r, .int .i64 s, .int .i64 k, .slice p4 d.length c4] 28) = w5 at W G H ⊢
    refine (eqFrame_yes _ _ _ _ _ _ _ _ _ _ _ _ _ (H.rd 0 rfl rfl) (H.rd 2 rfl rfl) hdl).mono ?_
    rintro e w6 ⟨rfl, b6⟩
    replace W := W.below b6 W.lt
    replace G := G.below b6 G.lt
    replace H := H.still b6
    clear b6
    go_wp2_with fail
    refine (toInt_any _ _ _ _ _ (hr.below H.below) hbig).mono ?_
    rintro e w7 m7
    obtain ⟨p7, c7, rfl, o7, -, b7⟩ := m7.get
    clear m7
    replace W := W.below b7 W.lt
    replace G := G.below b7 G.lt
    replace H := H.make o7 b7
    clear o7 b7
    go_wp2_with fail
    refine (eq_yes _ _ _ _ _ _ _ _ (H.rd 2 rfl rfl) (H.rd 0 rfl rfl) (by omega)).mono ?_
    rintro e w8 ⟨rfl, b8⟩
    replace W := W.below b8 W.lt
    replace G := G.below b8 G.lt
    replace H := H.still b8
    clear b8
    go_wp2_with fail
    refine (mark_own _ _ _ _ _ _ _ rfl (H.get 2 rfl) (by omega) (by omega) (by omega)).mono ?_
    rintro e w9 ⟨rfl, o9, g9⟩
    replace W := W.grown g9 (ne_below lox)
    replace G := G.grown g9 (ne_above hix)
    replace H := H.mark [(.slice p7 xs.length c7, xs), (.slice p4 d.length c4, d)] o9 g9
    clear o9 g9
    have g0 := G.c0
    have g1 := G.c1
    have g2 := G.c2
    have g3 := G.c3
    have g4 := G.c4
    have g5 := G.c5
    have g6 := G.c6
    have g7 := G.c7
    have w0 := W.c0
    have w1 := W.c1
    have w2 := W.c2
    have w3 := W.c3
    have w4 := W.c4
    have w5 := W.c5
    have w6 := W.c6
    have w7 := W.c7
    go_wp2_with fail
    clear g0 g1 g2 g3 g4 g5 g6 g7 w0 w1 w2 w3 w4 w5 w6 w7
    refine (eqFrame_yes _ _ _ _ _ _ _ _ _ _ _ _ _ (H.rd 1 rfl rfl) (H.rd 3 rfl rfl) hdl).mono ?_
    rintro e w10 ⟨rfl, b10⟩
    replace W := W.below b10 W.lt
    replace G := G.below b10 G.lt
    replace H := H.still b10
    clear b10
    have g0 := G.c0
    have g1 := G.c1
    have g2 := G.c2
    have g3 := G.c3
    have g4 := G.c4
    have g5 := G.c5
    have g6 := G.c6
    have g7 := G.c7
    go_wp2_with fail
    clear g0 g1 g2 g3 g4 g5 g6 g7
    refine (markFrame_own _ _ _ _ _ _ _ _ _ _ _ _ _ _ rfl (H.get 1 rfl) (by omega) (by omega) (by omega)).mono ?_
    rintro e w11 ⟨rfl, o11, g11⟩
    replace W := W.grown g11 (ne_below log)
    replace G := G.grown g11 (ne_above hig)
    replace H := H.mark [(.slice p7 xs.length c7, xs)] o11 g11
    clear o11 g11
    have g0 := G.c0
    have g1 := G.c1
    have g2 := G.c2
    have g3 := G.c3
    have g4 := G.c4
    have g5 := G.c5
    have g6 := G.c6
    have g7 := G.c7
    go_wp2_with fail
    clear g0 g1 g2 g3 g4 g5 g6 g7
    refine (heldFrame_yes _ _ _ _ _ _ _ _ _ _ _ _ (H.rd 1 rfl (marks_len _ _)) (by omega) (by omega) (by omega)).mono ?_
    rintro e w12 ⟨rfl, b12⟩
    replace W := W.below b12 W.lt
    replace G := G.below b12 G.lt
    replace H := H.still b12
    clear b12
    go_upto_region 22 with fail
    go_cut [15, 16] (fun s7 s8 wx => ∃ wy, wy = wx ∧ ∃ J p8 c8, s7 = .pointer (some ⟨J, 0, none⟩) ∧ s8 = .int .i64 z ∧ LaidFrame w12 wy J a q t m r s k d p8 c8)
    case first =>
      have bb : Below w12.heap.size w12 w12.drew := Below.drew (Below.refl _ _)
      refine wp_region_held_drew (S := fun w' => w'.cell? ⟨w.heap.size, 0, none⟩ = some (.int .i64 s2_0) ∧ w'.cell? ⟨w.heap.size, 1, none⟩ = some (.int .i64 s2_1) ∧ w'.cell? ⟨w.heap.size, 2, none⟩ = some (.int .i64 s2_2) ∧ w'.cell? ⟨w.heap.size, 3, none⟩ = some (.int .i64 s2_3) ∧ w'.cell? ⟨w.heap.size, 4, none⟩ = some (.int .i64 s2_4)) (by kernel_rfl) (state_cells (B0.out.below (below_two H.below bb) B0.out.lt)) (fun hHeld => ?_)
      generalize w12.drew = wd at bb hHeld ⊢
      refine wpAnyH_take (i := 0) (v := ?_) rfl (by kernel_rfl) (by kernel_rfl) (by kernel_rfl) (fun _ _ _ h => h) (Or.inl ⟨by rfl, ?_⟩) (by assumption) ?_
      rotate_left
      · (intro w hSw; (try dsimp only at hSw); go_simp; (try with_reducible rfl))
      try simp only [List.getElem_toArray, List.getElem_cons_succ, List.getElem_cons_zero, Act.put, List.setIfInBounds_toArray, List.set_cons_zero, List.set_cons_succ]
      refine wpAnyH_take (i := 2) (v := ?_) rfl (by kernel_rfl) (by kernel_rfl) (by kernel_rfl) (fun _ _ _ h => h) (Or.inl ⟨by rfl, ?_⟩) (by assumption) ?_
      rotate_left
      · (intro w hSw; (try dsimp only at hSw); go_simp; (try with_reducible rfl))
      try simp only [List.getElem_toArray, List.getElem_cons_succ, List.getElem_cons_zero, Act.put, List.setIfInBounds_toArray, List.set_cons_zero, List.set_cons_succ]
      refine wpAnyH_take (i := 3) (v := ?_) rfl (by kernel_rfl) (by kernel_rfl) (by kernel_rfl) (fun _ _ _ h => h) (Or.inl ⟨by rfl, ?_⟩) (by assumption) ?_
      rotate_left
      · (intro w hSw; (try dsimp only at hSw); go_simp; (try with_reducible rfl))
      try simp only [List.getElem_toArray, List.getElem_cons_succ, List.getElem_cons_zero, Act.put, List.setIfInBounds_toArray, List.set_cons_zero, List.set_cons_succ]
      refine wpAnyH_ready (rs := [1, 9]) (by kernel_rfl) (by simp) (AllReadyH.cons rfl (fun K hK => ?_) (AllReadyH.cons rfl (fun K hK => ?_) AllReadyH.nil))
      · go_simp
        refine (toInt_any _ _ _ _ _ (hr.below (below_two H.below bb)) hbig).mono ?_
        rintro e wa ma
        obtain ⟨pa, ca, rfl, oa, -, ba⟩ := ma.get
        clear ma
        have OA := oa.more bb.size
        replace bb := below_two bb ba
        clear oa ba
        go_wp2_with fail
        refine hK.out _ _ ?_ (fun hHeld => ?_)
        · exact state_cells (B0.out.below (below_two H.below bb) B0.out.lt)
        clear hK K
        try simp only [List.getElem_toArray, List.getElem_cons_succ, List.getElem_cons_zero, Act.put, List.setIfInBounds_toArray, List.set_cons_zero, List.set_cons_succ]
        refine wpAnyH_ready (rs := [4, 9]) (by kernel_rfl) (by simp) (AllReadyH.cons rfl (fun K hK => ?_) (AllReadyH.cons rfl (fun K hK => ?_) AllReadyH.nil))
        · go_simp
          refine (toState_any _ _ _ _ _ _).mono ?_
          rintro e wc ⟨rfl, bc⟩
          replace OA := OA.below bc
          replace bb := below_two bb bc
          clear bc
          go_wp2_with fail
          refine hK.out _ _ ?_ (fun hHeld => ?_)
          · exact state_cells (B0.out.below (below_two H.below bb) B0.out.lt)
          clear hK K
          try simp only [List.getElem_toArray, List.getElem_cons_succ, List.getElem_cons_zero, Act.put, List.setIfInBounds_toArray, List.set_cons_zero, List.set_cons_succ]
          refine wpAnyH_ready (rs := [5, 9]) (by kernel_rfl) (by simp) (AllReadyH.cons rfl (fun K hK => ?_) (AllReadyH.cons rfl (fun K hK => ?_) AllReadyH.nil))
          · go_simp
            obtain ⟨_, _, ea, _, ra⟩ := OA.get
            cases ea
            refine (openFrame_any _ _ _ _ _ _ _ _ _ _ ra hbig (Own.cap OA).1 (Own.cap OA).2).mono ?_
            intro e w8 h8
            rw [HF.out] at h8
            obtain ⟨p8, c8, rfl, o8, b8⟩ := h8
            simp only at o8 ⊢
            have O8 := o8.more bb.size
            replace bb := below_two bb b8
            clear o8 b8 ra OA
            go_wp2_with fail
            refine hK.out _ _ ?_ (fun hHeld => ?_)
            · exact state_cells (B0.out.below (below_two H.below bb) B0.out.lt)
            clear hK K
            try simp only [List.getElem_toArray, List.getElem_cons_succ, List.getElem_cons_zero, Act.put, List.setIfInBounds_toArray, List.set_cons_zero, List.set_cons_succ]
            refine wpAnyH_take (i := 6) (v := ?_) rfl (by kernel_rfl) (by kernel_rfl) (by kernel_rfl) (fun _ _ _ h => h) (Or.inl ⟨by rfl, ?_⟩) (by assumption) ?_
            rotate_left
            · (intro w hSw; (try dsimp only at hSw); go_simp; (try with_reducible rfl))
            try simp only [List.getElem_toArray, List.getElem_cons_succ, List.getElem_cons_zero, Act.put, List.setIfInBounds_toArray, List.set_cons_zero, List.set_cons_succ]
            refine wpAnyH_take (i := 7) (v := ?_) rfl (by kernel_rfl) (by kernel_rfl) (by kernel_rfl) (fun _ _ _ h => h) (Or.inl ⟨by rfl, ?_⟩) (by assumption) ?_
            rotate_left
            · (intro w hSw; (try dsimp only at hSw); go_simp; (try with_reducible rfl))
            try simp only [List.getElem_toArray, List.getElem_cons_succ, List.getElem_cons_zero, Act.put, List.setIfInBounds_toArray, List.set_cons_zero, List.set_cons_succ]
            refine wpAnyH_take (i := 8) (v := ?_) rfl (by kernel_rfl) (by kernel_rfl) (by kernel_rfl) (fun _ _ _ h => h) (Or.inl ⟨by rfl, ?_⟩) (by assumption) ?_
            rotate_left
            · (intro w hSw; (try dsimp only at hSw); go_simp; (try with_reducible rfl))
            try simp only [List.getElem_toArray, List.getElem_cons_succ, List.getElem_cons_zero, Act.put, List.setIfInBounds_toArray, List.set_cons_zero, List.set_cons_succ]
            refine wpAnyH_ready (rs := [9]) (by kernel_rfl) (by simp) (AllReadyH.cons rfl (fun K hK => ?_) AllReadyH.nil)
            go_simp
            have bal := Below.alloc (Below.refl w8.heap.size w8) (Nat.le_refl _) (.cells #[.int .i64 0, .int .i64 0, .int .i64 0, .int .i64 0, .int .i64 0, .int .i64 0, .int .i64 0, .slice none 0 0] 28)
            have ZJ := FrameAt.new (T := 28) (a := 0) (q := 0) (t := 0) (m := 0) (r := 0) (s := 0) (k := 0) (v := .slice none 0 0) w8
            have hJ : w12.heap.size ≤ w8.heap.size := bb.size
            have hn := own_under O8
            replace O8 := O8.below bal
            replace bb := below_two bb bal
            clear bal
            obtain ⟨J, eJ⟩ : ∃ J, J = w8.heap.size := ⟨_, rfl⟩
            rw [← eJ] at ZJ hJ hn ⊢
            clear eJ
            generalize w8.alloc (.cells #[.int .i64 0, .int .i64 0, .int .i64 0, .int .i64 0, .int .i64 0, .int .i64 0, .int .i64 0, .slice none 0 0] 28) = wl at ZJ bb O8 ⊢
            refine hK.out _ _ ?_ (fun hHeld => ?_)
            · exact state_cells (B0.out.below (below_two H.below bb) B0.out.lt)
            clear hK K
            try simp only [List.getElem_toArray, List.getElem_cons_succ, List.getElem_cons_zero, Act.put, List.setIfInBounds_toArray, List.set_cons_zero, List.set_cons_succ]
            have rc0 := ZJ.c0
            have rc1 := ZJ.c1
            have rc2 := ZJ.c2
            have rc3 := ZJ.c3
            have rc4 := ZJ.c4
            have rc5 := ZJ.c5
            have rc6 := ZJ.c6
            have rc7 := ZJ.c7
            have rf0 := ZJ.f 0
            have rf1 := ZJ.f 1
            have rf2 := ZJ.f 2
            have rf3 := ZJ.f 3
            have rf4 := ZJ.f 4
            have rf5 := ZJ.f 5
            have rf6 := ZJ.f 6
            have rf7 := ZJ.f 7
            refine wpAnyH_ready (rs := [10]) (by kernel_rfl) (by simp) (AllReadyH.cons rfl (fun K hK => ?_) AllReadyH.nil)
            go_simp
            have LF := laid_store (a := a) (q := q) (t := t) (m := m) (r := r) (s := s) (k := k) ZJ O8 hn hJ bb
            clear rc0 rf0 rc1 rf1 rc2 rf2 rc3 rf3 rc4 rf4 rc5 rf5 rc6 rf6 rc7 rf7
            refine hK.out _ _ ?_ (fun hHeld => ?_)
            · exact state_cells (B0.out.below (below_two H.below LF.2.2.2) B0.out.lt)
            clear hK K
            try simp only [List.getElem_toArray, List.getElem_cons_succ, List.getElem_cons_zero, Act.put, List.setIfInBounds_toArray, List.set_cons_zero, List.set_cons_succ]
            refine wpAnyH_take (i := 11) (v := ?_) rfl (by kernel_rfl) (by kernel_rfl) (by kernel_rfl) (fun _ _ _ h => h) (Or.inl ⟨by rfl, ?_⟩) (by assumption) ?_
            rotate_left
            · (intro w hSw; (try dsimp only at hSw); go_simp; (try with_reducible rfl))
            try simp only [List.getElem_toArray, List.getElem_cons_succ, List.getElem_cons_zero, Act.put, List.setIfInBounds_toArray, List.set_cons_zero, List.set_cons_succ]
            refine wpAnyH_done (by kernel_rfl) ?_ _
            go_wp2_with fail
            go_meet
            exact ⟨_, rfl, J, p8, c8, rfl, rfl, LF⟩
          · go_simp
            have bal := Below.alloc (Below.refl wc.heap.size wc) (Nat.le_refl _) (.cells #[.int .i64 0, .int .i64 0, .int .i64 0, .int .i64 0, .int .i64 0, .int .i64 0, .int .i64 0, .slice none 0 0] 28)
            have ZJ := FrameAt.new (T := 28) (a := 0) (q := 0) (t := 0) (m := 0) (r := 0) (s := 0) (k := 0) (v := .slice none 0 0) wc
            have hJ : w12.heap.size ≤ wc.heap.size := bb.size
            replace OA := OA.below bal
            replace bb := below_two bb bal
            clear bal
            obtain ⟨J, eJ⟩ : ∃ J, J = wc.heap.size := ⟨_, rfl⟩
            rw [← eJ] at ZJ hJ ⊢
            clear eJ
            generalize wc.alloc (.cells #[.int .i64 0, .int .i64 0, .int .i64 0, .int .i64 0, .int .i64 0, .int .i64 0, .int .i64 0, .slice none 0 0] 28) = wl at ZJ bb OA ⊢
            refine hK.out _ _ ?_ (fun hHeld => ?_)
            · exact state_cells (B0.out.below (below_two H.below bb) B0.out.lt)
            clear hK K
            try simp only [List.getElem_toArray, List.getElem_cons_succ, List.getElem_cons_zero, Act.put, List.setIfInBounds_toArray, List.set_cons_zero, List.set_cons_succ]
            refine wpAnyH_ready (rs := [5]) (by kernel_rfl) (by simp) (AllReadyH.cons rfl (fun K hK => ?_) AllReadyH.nil)
            go_simp
            obtain ⟨_, _, ea, _, ra⟩ := OA.get
            cases ea
            refine (openFrame_any _ _ _ _ _ _ _ _ _ _ ra hbig (Own.cap OA).1 (Own.cap OA).2).mono ?_
            intro e w8 h8
            rw [HF.out] at h8
            obtain ⟨p8, c8, rfl, o8, b8⟩ := h8
            simp only at o8 ⊢
            have hn := own_above o8 ZJ.lt
            replace ZJ := ZJ.below b8 ZJ.lt
            have O8 := o8.more bb.size
            replace bb := below_two bb b8
            clear o8 b8 ra OA
            go_wp2_with fail
            refine hK.out _ _ ?_ (fun hHeld => ?_)
            · exact state_cells (B0.out.below (below_two H.below bb) B0.out.lt)
            clear hK K
            try simp only [List.getElem_toArray, List.getElem_cons_succ, List.getElem_cons_zero, Act.put, List.setIfInBounds_toArray, List.set_cons_zero, List.set_cons_succ]
            refine wpAnyH_take (i := 6) (v := ?_) rfl (by kernel_rfl) (by kernel_rfl) (by kernel_rfl) (fun _ _ _ h => h) (Or.inl ⟨by rfl, ?_⟩) (by assumption) ?_
            rotate_left
            · (intro w hSw; (try dsimp only at hSw); go_simp; (try with_reducible rfl))
            try simp only [List.getElem_toArray, List.getElem_cons_succ, List.getElem_cons_zero, Act.put, List.setIfInBounds_toArray, List.set_cons_zero, List.set_cons_succ]
            refine wpAnyH_take (i := 7) (v := ?_) rfl (by kernel_rfl) (by kernel_rfl) (by kernel_rfl) (fun _ _ _ h => h) (Or.inl ⟨by rfl, ?_⟩) (by assumption) ?_
            rotate_left
            · (intro w hSw; (try dsimp only at hSw); go_simp; (try with_reducible rfl))
            try simp only [List.getElem_toArray, List.getElem_cons_succ, List.getElem_cons_zero, Act.put, List.setIfInBounds_toArray, List.set_cons_zero, List.set_cons_succ]
            refine wpAnyH_take (i := 8) (v := ?_) rfl (by kernel_rfl) (by kernel_rfl) (by kernel_rfl) (fun _ _ _ h => h) (Or.inl ⟨by rfl, ?_⟩) (by assumption) ?_
            rotate_left
            · (intro w hSw; (try dsimp only at hSw); go_simp; (try with_reducible rfl))
            try simp only [List.getElem_toArray, List.getElem_cons_succ, List.getElem_cons_zero, Act.put, List.setIfInBounds_toArray, List.set_cons_zero, List.set_cons_succ]
            have rc0 := ZJ.c0
            have rc1 := ZJ.c1
            have rc2 := ZJ.c2
            have rc3 := ZJ.c3
            have rc4 := ZJ.c4
            have rc5 := ZJ.c5
            have rc6 := ZJ.c6
            have rc7 := ZJ.c7
            have rf0 := ZJ.f 0
            have rf1 := ZJ.f 1
            have rf2 := ZJ.f 2
            have rf3 := ZJ.f 3
            have rf4 := ZJ.f 4
            have rf5 := ZJ.f 5
            have rf6 := ZJ.f 6
            have rf7 := ZJ.f 7
            refine wpAnyH_ready (rs := [10]) (by kernel_rfl) (by simp) (AllReadyH.cons rfl (fun K hK => ?_) AllReadyH.nil)
            go_simp
            have LF := laid_store (a := a) (q := q) (t := t) (m := m) (r := r) (s := s) (k := k) ZJ O8 hn hJ bb
            clear rc0 rf0 rc1 rf1 rc2 rf2 rc3 rf3 rc4 rf4 rc5 rf5 rc6 rf6 rc7 rf7
            refine hK.out _ _ ?_ (fun hHeld => ?_)
            · exact state_cells (B0.out.below (below_two H.below LF.2.2.2) B0.out.lt)
            clear hK K
            try simp only [List.getElem_toArray, List.getElem_cons_succ, List.getElem_cons_zero, Act.put, List.setIfInBounds_toArray, List.set_cons_zero, List.set_cons_succ]
            refine wpAnyH_take (i := 11) (v := ?_) rfl (by kernel_rfl) (by kernel_rfl) (by kernel_rfl) (fun _ _ _ h => h) (Or.inl ⟨by rfl, ?_⟩) (by assumption) ?_
            rotate_left
            · (intro w hSw; (try dsimp only at hSw); go_simp; (try with_reducible rfl))
            try simp only [List.getElem_toArray, List.getElem_cons_succ, List.getElem_cons_zero, Act.put, List.setIfInBounds_toArray, List.set_cons_zero, List.set_cons_succ]
            refine wpAnyH_done (by kernel_rfl) ?_ _
            go_wp2_with fail
            go_meet
            exact ⟨_, rfl, J, p8, c8, rfl, rfl, LF⟩
        · go_simp
          have bal := Below.alloc (Below.refl wa.heap.size wa) (Nat.le_refl _) (.cells #[.int .i64 0, .int .i64 0, .int .i64 0, .int .i64 0, .int .i64 0, .int .i64 0, .int .i64 0, .slice none 0 0] 28)
          have ZJ := FrameAt.new (T := 28) (a := 0) (q := 0) (t := 0) (m := 0) (r := 0) (s := 0) (k := 0) (v := .slice none 0 0) wa
          have hJ : w12.heap.size ≤ wa.heap.size := bb.size
          replace OA := OA.below bal
          replace bb := below_two bb bal
          clear bal
          obtain ⟨J, eJ⟩ : ∃ J, J = wa.heap.size := ⟨_, rfl⟩
          rw [← eJ] at ZJ hJ ⊢
          clear eJ
          generalize wa.alloc (.cells #[.int .i64 0, .int .i64 0, .int .i64 0, .int .i64 0, .int .i64 0, .int .i64 0, .int .i64 0, .slice none 0 0] 28) = wl at ZJ bb OA ⊢
          refine hK.out _ _ ?_ (fun hHeld => ?_)
          · exact state_cells (B0.out.below (below_two H.below bb) B0.out.lt)
          clear hK K
          try simp only [List.getElem_toArray, List.getElem_cons_succ, List.getElem_cons_zero, Act.put, List.setIfInBounds_toArray, List.set_cons_zero, List.set_cons_succ]
          refine wpAnyH_ready (rs := [4]) (by kernel_rfl) (by simp) (AllReadyH.cons rfl (fun K hK => ?_) AllReadyH.nil)
          go_simp
          refine (toState_any _ _ _ _ _ _).mono ?_
          rintro e wc ⟨rfl, bc⟩
          replace ZJ := ZJ.below bc ZJ.lt
          replace OA := OA.below bc
          replace bb := below_two bb bc
          clear bc
          go_wp2_with fail
          refine hK.out _ _ ?_ (fun hHeld => ?_)
          · exact state_cells (B0.out.below (below_two H.below bb) B0.out.lt)
          clear hK K
          try simp only [List.getElem_toArray, List.getElem_cons_succ, List.getElem_cons_zero, Act.put, List.setIfInBounds_toArray, List.set_cons_zero, List.set_cons_succ]
          refine wpAnyH_ready (rs := [5]) (by kernel_rfl) (by simp) (AllReadyH.cons rfl (fun K hK => ?_) AllReadyH.nil)
          go_simp
          obtain ⟨_, _, ea, _, ra⟩ := OA.get
          cases ea
          refine (openFrame_any _ _ _ _ _ _ _ _ _ _ ra hbig (Own.cap OA).1 (Own.cap OA).2).mono ?_
          intro e w8 h8
          rw [HF.out] at h8
          obtain ⟨p8, c8, rfl, o8, b8⟩ := h8
          simp only at o8 ⊢
          have hn := own_above o8 ZJ.lt
          replace ZJ := ZJ.below b8 ZJ.lt
          have O8 := o8.more bb.size
          replace bb := below_two bb b8
          clear o8 b8 ra OA
          go_wp2_with fail
          refine hK.out _ _ ?_ (fun hHeld => ?_)
          · exact state_cells (B0.out.below (below_two H.below bb) B0.out.lt)
          clear hK K
          try simp only [List.getElem_toArray, List.getElem_cons_succ, List.getElem_cons_zero, Act.put, List.setIfInBounds_toArray, List.set_cons_zero, List.set_cons_succ]
          refine wpAnyH_take (i := 6) (v := ?_) rfl (by kernel_rfl) (by kernel_rfl) (by kernel_rfl) (fun _ _ _ h => h) (Or.inl ⟨by rfl, ?_⟩) (by assumption) ?_
          rotate_left
          · (intro w hSw; (try dsimp only at hSw); go_simp; (try with_reducible rfl))
          try simp only [List.getElem_toArray, List.getElem_cons_succ, List.getElem_cons_zero, Act.put, List.setIfInBounds_toArray, List.set_cons_zero, List.set_cons_succ]
          refine wpAnyH_take (i := 7) (v := ?_) rfl (by kernel_rfl) (by kernel_rfl) (by kernel_rfl) (fun _ _ _ h => h) (Or.inl ⟨by rfl, ?_⟩) (by assumption) ?_
          rotate_left
          · (intro w hSw; (try dsimp only at hSw); go_simp; (try with_reducible rfl))
          try simp only [List.getElem_toArray, List.getElem_cons_succ, List.getElem_cons_zero, Act.put, List.setIfInBounds_toArray, List.set_cons_zero, List.set_cons_succ]
          refine wpAnyH_take (i := 8) (v := ?_) rfl (by kernel_rfl) (by kernel_rfl) (by kernel_rfl) (fun _ _ _ h => h) (Or.inl ⟨by rfl, ?_⟩) (by assumption) ?_
          rotate_left
          · (intro w hSw; (try dsimp only at hSw); go_simp; (try with_reducible rfl))
          try simp only [List.getElem_toArray, List.getElem_cons_succ, List.getElem_cons_zero, Act.put, List.setIfInBounds_toArray, List.set_cons_zero, List.set_cons_succ]
          have rc0 := ZJ.c0
          have rc1 := ZJ.c1
          have rc2 := ZJ.c2
          have rc3 := ZJ.c3
          have rc4 := ZJ.c4
          have rc5 := ZJ.c5
          have rc6 := ZJ.c6
          have rc7 := ZJ.c7
          have rf0 := ZJ.f 0
          have rf1 := ZJ.f 1
          have rf2 := ZJ.f 2
          have rf3 := ZJ.f 3
          have rf4 := ZJ.f 4
          have rf5 := ZJ.f 5
          have rf6 := ZJ.f 6
          have rf7 := ZJ.f 7
          refine wpAnyH_ready (rs := [10]) (by kernel_rfl) (by simp) (AllReadyH.cons rfl (fun K hK => ?_) AllReadyH.nil)
          go_simp
          have LF := laid_store (a := a) (q := q) (t := t) (m := m) (r := r) (s := s) (k := k) ZJ O8 hn hJ bb
          clear rc0 rf0 rc1 rf1 rc2 rf2 rc3 rf3 rc4 rf4 rc5 rf5 rc6 rf6 rc7 rf7
          refine hK.out _ _ ?_ (fun hHeld => ?_)
          · exact state_cells (B0.out.below (below_two H.below LF.2.2.2) B0.out.lt)
          clear hK K
          try simp only [List.getElem_toArray, List.getElem_cons_succ, List.getElem_cons_zero, Act.put, List.setIfInBounds_toArray, List.set_cons_zero, List.set_cons_succ]
          refine wpAnyH_take (i := 11) (v := ?_) rfl (by kernel_rfl) (by kernel_rfl) (by kernel_rfl) (fun _ _ _ h => h) (Or.inl ⟨by rfl, ?_⟩) (by assumption) ?_
          rotate_left
          · (intro w hSw; (try dsimp only at hSw); go_simp; (try with_reducible rfl))
          try simp only [List.getElem_toArray, List.getElem_cons_succ, List.getElem_cons_zero, Act.put, List.setIfInBounds_toArray, List.set_cons_zero, List.set_cons_succ]
          refine wpAnyH_done (by kernel_rfl) ?_ _
          go_wp2_with fail
          go_meet
          exact ⟨_, rfl, J, p8, c8, rfl, rfl, LF⟩
      · go_simp
        have bal := Below.alloc (Below.refl wd.heap.size wd) (Nat.le_refl _) (.cells #[.int .i64 0, .int .i64 0, .int .i64 0, .int .i64 0, .int .i64 0, .int .i64 0, .int .i64 0, .slice none 0 0] 28)
        have ZJ := FrameAt.new (T := 28) (a := 0) (q := 0) (t := 0) (m := 0) (r := 0) (s := 0) (k := 0) (v := .slice none 0 0) wd
        have hJ : w12.heap.size ≤ wd.heap.size := bb.size
        replace bb := below_two bb bal
        clear bal
        obtain ⟨J, eJ⟩ : ∃ J, J = wd.heap.size := ⟨_, rfl⟩
        rw [← eJ] at ZJ hJ ⊢
        clear eJ
        generalize wd.alloc (.cells #[.int .i64 0, .int .i64 0, .int .i64 0, .int .i64 0, .int .i64 0, .int .i64 0, .int .i64 0, .slice none 0 0] 28) = wl at ZJ bb ⊢
        refine hK.out _ _ ?_ (fun hHeld => ?_)
        · exact state_cells (B0.out.below (below_two H.below bb) B0.out.lt)
        clear hK K
        try simp only [List.getElem_toArray, List.getElem_cons_succ, List.getElem_cons_zero, Act.put, List.setIfInBounds_toArray, List.set_cons_zero, List.set_cons_succ]
        refine wpAnyH_ready (rs := [1]) (by kernel_rfl) (by simp) (AllReadyH.cons rfl (fun K hK => ?_) AllReadyH.nil)
        go_simp
        refine (toInt_any _ _ _ _ _ (hr.below (below_two H.below bb)) hbig).mono ?_
        rintro e wa ma
        obtain ⟨pa, ca, rfl, oa, -, ba⟩ := ma.get
        clear ma
        replace ZJ := ZJ.below ba ZJ.lt
        have OA := oa.more bb.size
        replace bb := below_two bb ba
        clear oa ba
        go_wp2_with fail
        refine hK.out _ _ ?_ (fun hHeld => ?_)
        · exact state_cells (B0.out.below (below_two H.below bb) B0.out.lt)
        clear hK K
        try simp only [List.getElem_toArray, List.getElem_cons_succ, List.getElem_cons_zero, Act.put, List.setIfInBounds_toArray, List.set_cons_zero, List.set_cons_succ]
        refine wpAnyH_ready (rs := [4]) (by kernel_rfl) (by simp) (AllReadyH.cons rfl (fun K hK => ?_) AllReadyH.nil)
        go_simp
        refine (toState_any _ _ _ _ _ _).mono ?_
        rintro e wc ⟨rfl, bc⟩
        replace ZJ := ZJ.below bc ZJ.lt
        replace OA := OA.below bc
        replace bb := below_two bb bc
        clear bc
        go_wp2_with fail
        refine hK.out _ _ ?_ (fun hHeld => ?_)
        · exact state_cells (B0.out.below (below_two H.below bb) B0.out.lt)
        clear hK K
        try simp only [List.getElem_toArray, List.getElem_cons_succ, List.getElem_cons_zero, Act.put, List.setIfInBounds_toArray, List.set_cons_zero, List.set_cons_succ]
        refine wpAnyH_ready (rs := [5]) (by kernel_rfl) (by simp) (AllReadyH.cons rfl (fun K hK => ?_) AllReadyH.nil)
        go_simp
        obtain ⟨_, _, ea, _, ra⟩ := OA.get
        cases ea
        refine (openFrame_any _ _ _ _ _ _ _ _ _ _ ra hbig (Own.cap OA).1 (Own.cap OA).2).mono ?_
        intro e w8 h8
        rw [HF.out] at h8
        obtain ⟨p8, c8, rfl, o8, b8⟩ := h8
        simp only at o8 ⊢
        have hn := own_above o8 ZJ.lt
        replace ZJ := ZJ.below b8 ZJ.lt
        have O8 := o8.more bb.size
        replace bb := below_two bb b8
        clear o8 b8 ra OA
        go_wp2_with fail
        refine hK.out _ _ ?_ (fun hHeld => ?_)
        · exact state_cells (B0.out.below (below_two H.below bb) B0.out.lt)
        clear hK K
        try simp only [List.getElem_toArray, List.getElem_cons_succ, List.getElem_cons_zero, Act.put, List.setIfInBounds_toArray, List.set_cons_zero, List.set_cons_succ]
        refine wpAnyH_take (i := 6) (v := ?_) rfl (by kernel_rfl) (by kernel_rfl) (by kernel_rfl) (fun _ _ _ h => h) (Or.inl ⟨by rfl, ?_⟩) (by assumption) ?_
        rotate_left
        · (intro w hSw; (try dsimp only at hSw); go_simp; (try with_reducible rfl))
        try simp only [List.getElem_toArray, List.getElem_cons_succ, List.getElem_cons_zero, Act.put, List.setIfInBounds_toArray, List.set_cons_zero, List.set_cons_succ]
        refine wpAnyH_take (i := 7) (v := ?_) rfl (by kernel_rfl) (by kernel_rfl) (by kernel_rfl) (fun _ _ _ h => h) (Or.inl ⟨by rfl, ?_⟩) (by assumption) ?_
        rotate_left
        · (intro w hSw; (try dsimp only at hSw); go_simp; (try with_reducible rfl))
        try simp only [List.getElem_toArray, List.getElem_cons_succ, List.getElem_cons_zero, Act.put, List.setIfInBounds_toArray, List.set_cons_zero, List.set_cons_succ]
        refine wpAnyH_take (i := 8) (v := ?_) rfl (by kernel_rfl) (by kernel_rfl) (by kernel_rfl) (fun _ _ _ h => h) (Or.inl ⟨by rfl, ?_⟩) (by assumption) ?_
        rotate_left
        · (intro w hSw; (try dsimp only at hSw); go_simp; (try with_reducible rfl))
        try simp only [List.getElem_toArray, List.getElem_cons_succ, List.getElem_cons_zero, Act.put, List.setIfInBounds_toArray, List.set_cons_zero, List.set_cons_succ]
        have rc0 := ZJ.c0
        have rc1 := ZJ.c1
        have rc2 := ZJ.c2
        have rc3 := ZJ.c3
        have rc4 := ZJ.c4
        have rc5 := ZJ.c5
        have rc6 := ZJ.c6
        have rc7 := ZJ.c7
        have rf0 := ZJ.f 0
        have rf1 := ZJ.f 1
        have rf2 := ZJ.f 2
        have rf3 := ZJ.f 3
        have rf4 := ZJ.f 4
        have rf5 := ZJ.f 5
        have rf6 := ZJ.f 6
        have rf7 := ZJ.f 7
        refine wpAnyH_ready (rs := [10]) (by kernel_rfl) (by simp) (AllReadyH.cons rfl (fun K hK => ?_) AllReadyH.nil)
        go_simp
        have LF := laid_store (a := a) (q := q) (t := t) (m := m) (r := r) (s := s) (k := k) ZJ O8 hn hJ bb
        clear rc0 rf0 rc1 rf1 rc2 rf2 rc3 rf3 rc4 rf4 rc5 rf5 rc6 rf6 rc7 rf7
        refine hK.out _ _ ?_ (fun hHeld => ?_)
        · exact state_cells (B0.out.below (below_two H.below LF.2.2.2) B0.out.lt)
        clear hK K
        try simp only [List.getElem_toArray, List.getElem_cons_succ, List.getElem_cons_zero, Act.put, List.setIfInBounds_toArray, List.set_cons_zero, List.set_cons_succ]
        refine wpAnyH_take (i := 11) (v := ?_) rfl (by kernel_rfl) (by kernel_rfl) (by kernel_rfl) (fun _ _ _ h => h) (Or.inl ⟨by rfl, ?_⟩) (by assumption) ?_
        rotate_left
        · (intro w hSw; (try dsimp only at hSw); go_simp; (try with_reducible rfl))
        try simp only [List.getElem_toArray, List.getElem_cons_succ, List.getElem_cons_zero, Act.put, List.setIfInBounds_toArray, List.set_cons_zero, List.set_cons_succ]
        refine wpAnyH_done (by kernel_rfl) ?_ _
        go_wp2_with fail
        go_meet
        exact ⟨_, rfl, J, p8, c8, rfl, rfl, LF⟩
    case rest =>
      obtain ⟨w13, rfl, bX, p13, c13, rfl, rfl, X, o13, hjj13, b13⟩ := hcut
      replace W := W.below b13 W.lt
      replace G := G.below b13 G.lt
      replace H := H.make o13 b13
      clear o13 b13
      have x0 := X.c0
      have x1 := X.c1
      have x2 := X.c2
      have x3 := X.c3
      have x4 := X.c4
      have x5 := X.c5
      have x6 := X.c6
      have x7 := X.c7
      have w0 := W.c0
      have w1 := W.c1
      have w2 := W.c2
      have w3 := W.c3
      have w4 := W.c4
      have w5 := W.c5
      have w6 := W.c6
      have w7 := W.c7
      go_wp2_with fail
      clear x0 x1 x2 x3 x4 x5 x6 x7 w0 w1 w2 w3 w4 w5 w6 w7
      refine (eqFrame_yes _ _ _ _ _ _ _ _ _ _ _ _ _ (H.rd 0 rfl rfl) (H.rd 4 rfl rfl) hdl).mono ?_
      rintro e w14 ⟨rfl, b14⟩
      replace W := W.below b14 W.lt
      replace G := G.below b14 G.lt
      replace X := X.below b14 X.lt
      replace H := H.still b14
      clear b14
      have g0 := G.c0
      have g1 := G.c1
      have g2 := G.c2
      have g3 := G.c3
      have g4 := G.c4
      have g5 := G.c5
      have g6 := G.c6
      have g7 := G.c7
      go_wp2_with fail
      clear g0 g1 g2 g3 g4 g5 g6 g7
      refine (heldFrame_yes _ _ _ _ _ _ _ _ _ _ _ _ (H.rd 2 rfl (marks_len _ _)) (by omega) (by omega) (by omega)).mono ?_
      rintro e w15 ⟨rfl, b15⟩
      replace W := W.below b15 W.lt
      replace G := G.below b15 G.lt
      replace X := X.below b15 X.lt
      replace H := H.still b15
      clear b15
      go_wp2_with fail
      go_ret
      exact ⟨rfl, HW0.out.trans (H.below.mono HW0.out.size)⟩
end Go.Proofs.Ytbdfnkhmnglpbaa.fnExactOpenFrame
