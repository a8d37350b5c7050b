/-
  Chapter 8: l08From and DescriptorFromBytes of the model.
-/
import Derived.Test.YtjejflngaelgkaaD7
import Derived.Test.YtjejflngaelgkaaSixD
namespace Go.Proofs.Ytjejflngaelgkaa
open Go.RowKit

theorem ReadLp.drew {w wr : World} {d : Ds} (h : ReadLp w wr d) : ReadLp w wr.drew d := h.call (Below.drew (Below.refl _ _))
/-- The descriptor's block is laid. -/
theorem ReadLp.lay {w w1 : World} (h : DescAt 25 w1 w.heap.size 0 0 0 0 false) (b : Below w.heap.size w w1) (hs : w1.heap.size = w.heap.size + 1) : ReadLp w (w1.alloc (.cells #[.int .i64 0, .int .i64 0, .int .i64 0, .int .i64 0, .bool false] 25)) ⟨0, 0, 0, 0, false⟩ := by
  have v := DescAt.new (T := 25) (n := 0) (a := 0) (z := 0) (u := 0) (c := false) w1
  rw [hs] at v
  exact ⟨h.below ((Below.refl _ _).alloc (Nat.le_refl _) _) h.lt, v, b.alloc b.size _⟩
theorem ReadLp.sets {w wr : World} {d : Ds} (h : ReadLp w wr d) (n a z u : Int) (c : Bool) : ReadLp w (setDesc wr (w.heap.size + 1) n a z u c) ⟨n, a, z, u, c⟩ :=
  have b := below_desc (B := w.heap.size + 1) (w := wr) (Nat.le_refl _) n a z u c
  ⟨h.res.below b (Nat.lt_succ_self _), h.var.five n a z u c, h.below.trans (b.mono (Nat.le_succ _))⟩
theorem ReadLp.varFin {w wr : World} {d : Ds} (h : ReadLp w wr d) (n a z u : Int) (c : Bool) : DescAt 25 (setDesc wr w.heap.size n a z u c) (w.heap.size + 1) d.node d.kind d.size d.dur d.chg :=
  ((((h.var.other (by omega)).other (by omega)).other (by omega)).other (by omega)).other (by omega)
set_option maxHeartbeats 4000000 in
set_option maxRecDepth 100000 in
set_option linter.unusedVariables false in
set_option linter.unusedSimpArgs false in
theorem l08From_any (b off cap : Nat) (x0 x1 x2 x3 x4 : Int) (w : World) (hr : Rd w (some ⟨b, off, none⟩) 5 [x0, x1, x2, x3, x4]) (hb : isBytes [x0, x1, x2, x3, x4] = true) : Calls Try.prog 55 #[.slice (some ⟨b, off, none⟩) 5 cap] w fun e w' => e = .returned (.tuple #[.agg #[.int .i64 (descRead x0 x1 x2 x3 x4).node, .int .i64 (descRead x0 x1 x2 x3 x4).kind, .int .i64 (descRead x0 x1 x2 x3 x4).size, .int .i64 (descRead x0 x1 x2 x3 x4).dur, .bool (descRead x0 x1 x2 x3 x4).chg], .bool (isDesc (descRead x0 x1 x2 x3 x4) && decide (descBytes (descRead x0 x1 x2 x3 x4) = [x0, x1, x2, x3, x4]))]) ∧ Below w.heap.size w w' := by
  have hcell : ∀ k, k < 5 → w.cell? ⟨b, off + k, none⟩ = some (.int .i64 ([x0, x1, x2, x3, x4].getD k 0)) := by
    obtain ⟨b', off', e, hc⟩ := hr.here (by omega)
    cases e
    exact hc
  have hblt : b < w.heap.size := World.block_lt_of_cell? w _ (hcell 0 (by omega))
  have hcW : ∀ W, Below w.heap.size w W → W.cell? ⟨b, off, none⟩ = some (.int .i64 x0) ∧ W.cell? ⟨b, off + 1, none⟩ = some (.int .i64 x1) ∧ W.cell? ⟨b, off + 2, none⟩ = some (.int .i64 x2) ∧ W.cell? ⟨b, off + 3, none⟩ = some (.int .i64 x3) ∧ W.cell? ⟨b, off + 4, none⟩ = some (.int .i64 x4) := fun W hW =>
    have h := fun k hk => (hW.cell (p := ⟨b, off + k, none⟩) hblt).trans (hcell k hk)
    ⟨h 0 (by omega), h 1 (by omega), h 2 (by omega), h 3 (by omega), h 4 (by omega)⟩
  clear hcell hblt
  have hbb := (isBytes_iff.1 hb).2
  have r1 := hbb x1 (by simp); have r2 := hbb x2 (by simp); have r3 := hbb x3 (by simp)
  unfold descRead
  have k1 : IntKind.i64.wrap (x1.tdiv 64) = x1 / 64 := by rw [Int.tdiv_eq_ediv_of_nonneg r1.1, IntKind.wrap_i64]; omega
  have k2 : x1.tmod 64 = x1 % 64 := by rw [Int.tmod_eq_emod_of_nonneg r1.1]
  obtain ⟨v3, hv3⟩ : ∃ v, 256 * x2 = v := ⟨_, rfl⟩
  have k3 : IntKind.i64.wrap (256 * x2) = v3 := by rw [IntKind.wrap_i64]; omega
  rw [hv3]
  obtain ⟨y4, hy4⟩ : ∃ v, v3 + x3 = v := ⟨_, rfl⟩
  have k4 : IntKind.i64.wrap (v3 + x3) = y4 := by rw [IntKind.wrap_i64]; omega
  rw [hy4]
  clear hv3 hy4
  have k5 : (x4 == 1) = decide (x4 = 1) := rfl
  clear hbb r1 r2 r3 hb
  generalize x1 / 64 = y1 at k1 ⊢
  generalize x1 % 64 = y2 at k2 ⊢
  generalize decide (x4 = 1) = y5 at k5 ⊢
  simp only
  have hdi := fun (W : World) => sIsDescriptor_any x0 y1 y2 y4 y5 W
  have hin : isDesc ⟨x0, y1, y2, y4, y5⟩ = true → descIn ⟨x0, y1, y2, y4, y5⟩ := desc_in
  have hbl := descBytes_len ⟨x0, y1, y2, y4, y5⟩
  have hyb := fun (W : World) (h : descIn ⟨x0, y1, y2, y4, y5⟩) => l08Bytes_any x0 y1 y2 y4 y5 W h
  generalize isDesc ⟨x0, y1, y2, y4, y5⟩ = ok at hdi hin ⊢
  generalize descBytes ⟨x0, y1, y2, y4, y5⟩ = fb at hyb hbl ⊢
  have B0 : Below w.heap.size w (w.alloc (.cells #[.int .i64 0, .int .i64 0, .int .i64 0, .int .i64 0, .bool false] 25)) := (Below.refl _ _).alloc (Nat.le_refl _) _
  have R0 : DescAt 25 (w.alloc (.cells #[.int .i64 0, .int .i64 0, .int .i64 0, .int .i64 0, .bool false] 25)) w.heap.size 0 0 0 0 false := DescAt.new w
  have S0 : (w.alloc (.cells #[.int .i64 0, .int .i64 0, .int .i64 0, .int .i64 0, .bool false] 25)).heap.size = w.heap.size + 1 := by simp
  have HB0 := Lib.hid B0; have HR0 := Lib.hid R0; have HS0 := Lib.hid S0; have HR := Lib.hid hr; have HCW := Lib.hid hcW; have HDI := Lib.hid hdi; have HIN := Lib.hid hin; have HYB := Lib.hid hyb; have HBL := Lib.hid hbl
  clear B0 R0 S0 hr hcW hdi hin hyb hbl
  go_enter Try.func55, Try.ntmps55
  go_upto_region 1 with fail
  generalize w.alloc (.cells #[.int .i64 0, .int .i64 0, .int .i64 0, .int .i64 0, .bool false] 25) = w0 at HB0 HR0 HS0 ⊢
  have HB1 : Hid (Below w.heap.size w w0.drew) := Lib.hid HB0.out.drew
  have HR1 : Hid (DescAt 25 w0.drew w.heap.size 0 0 0 0 false) := HR0
  have HS1 : Hid (w0.drew.heap.size = w.heap.size + 1) := HS0
  clear HB0 HR0 HS0
  refine wp_region_held_drew (S := fun w' => w'.cell? ⟨b, off, none⟩ = some (.int .i64 x0) ∧ w'.cell? ⟨b, off + 1, none⟩ = some (.int .i64 x1) ∧ w'.cell? ⟨b, off + 2, none⟩ = some (.int .i64 x2) ∧ w'.cell? ⟨b, off + 3, none⟩ = some (.int .i64 x3) ∧ w'.cell? ⟨b, off + 4, none⟩ = some (.int .i64 x4)) (by kernel_rfl) (HCW.out _ HB1.out) (fun hHeld => ?_)
  generalize w0.drew = w1 at HB1 HR1 HS1 hHeld ⊢
  refine wpAnyH_take (i := 0) (v := ?_) rfl (by kernel_rfl) (by kernel_rfl) (by kernel_rfl) (fun _ _ _ h => h) (Or.inl ⟨by rfl, ?_⟩) (by assumption) ?_
  rotate_left
  · (intro w hSw; (try dsimp only at hSw); go_simp; (try with_reducible rfl))
  try simp only [List.getElem_toArray, List.getElem_cons_succ, List.getElem_cons_zero, Act.put, List.setIfInBounds_toArray, List.set_cons_zero, List.set_cons_succ]
  refine wpAnyH_take (i := 1) (v := ?_) rfl (by kernel_rfl) (by kernel_rfl) (by kernel_rfl) (fun _ _ _ h => h) (Or.inl ⟨by rfl, ?_⟩) (by assumption) ?_
  rotate_left
  · (intro w hSw; (try dsimp only at hSw); go_simp; (try with_reducible rfl))
  try simp only [List.getElem_toArray, List.getElem_cons_succ, List.getElem_cons_zero, Act.put, List.setIfInBounds_toArray, List.set_cons_zero, List.set_cons_succ]
  refine wpAnyH_take (i := 2) (v := ?_) rfl (by kernel_rfl) (by kernel_rfl) (by kernel_rfl) (fun _ _ _ h => h) (Or.inl ⟨by rfl, ?_⟩) (by assumption) ?_
  rotate_left
  · (intro w hSw; (try dsimp only at hSw); go_simp; (try with_reducible rfl))
  try simp only [List.getElem_toArray, List.getElem_cons_succ, List.getElem_cons_zero, Act.put, List.setIfInBounds_toArray, List.set_cons_zero, List.set_cons_succ]
  refine wpAnyH_take (i := 3) (v := ?_) rfl (by kernel_rfl) (by kernel_rfl) (by kernel_rfl) (fun _ _ _ h => h) (Or.inl ⟨by rfl, ?_⟩) (by assumption) ?_
  rotate_left
  · (intro w hSw; (try dsimp only at hSw); go_simp; (try with_reducible rfl))
  try simp only [List.getElem_toArray, List.getElem_cons_succ, List.getElem_cons_zero, Act.put, List.setIfInBounds_toArray, List.set_cons_zero, List.set_cons_succ]
  refine wpAnyH_take (i := 4) (v := ?_) rfl (by kernel_rfl) (by kernel_rfl) (by kernel_rfl) (fun _ _ _ h => h) (Or.inl ⟨by rfl, ?_⟩) (by assumption) ?_
  rotate_left
  · (intro w hSw; (try dsimp only at hSw); go_simp; (try with_reducible rfl))
  try simp only [List.getElem_toArray, List.getElem_cons_succ, List.getElem_cons_zero, Act.put, List.setIfInBounds_toArray, List.set_cons_zero, List.set_cons_succ]
  refine wpAnyH_take (i := 5) (v := ?_) rfl (by kernel_rfl) (by kernel_rfl) (by kernel_rfl) (fun _ _ _ h => h) (Or.inl ⟨by rfl, ?_⟩) (by assumption) ?_
  rotate_left
  · (intro w hSw; (try dsimp only at hSw); go_simp; (try with_reducible rfl))
  try simp only [List.getElem_toArray, List.getElem_cons_succ, List.getElem_cons_zero, Act.put, List.setIfInBounds_toArray, List.set_cons_zero, List.set_cons_succ]
  refine wpAnyH_take (i := 6) (v := ?_) rfl (by kernel_rfl) (by kernel_rfl) (by kernel_rfl) (fun _ _ _ h => h) (Or.inl ⟨by rfl, ?_⟩) (by assumption) ?_
  rotate_left
  · (intro w hSw; (try dsimp only at hSw); go_simp; (try with_reducible rfl))
  try simp only [List.getElem_toArray, List.getElem_cons_succ, List.getElem_cons_zero, Act.put, List.setIfInBounds_toArray, List.set_cons_zero, List.set_cons_succ]
  refine wpAnyH_take (i := 7) (v := ?_) rfl (by kernel_rfl) (by kernel_rfl) (by kernel_rfl) (fun _ _ _ h => h) (Or.inl ⟨by rfl, ?_⟩) (by assumption) ?_
  rotate_left
  · (intro w hSw; (try dsimp only at hSw); go_simp; (try with_reducible rfl))
  try simp only [List.getElem_toArray, List.getElem_cons_succ, List.getElem_cons_zero, Act.put, List.setIfInBounds_toArray, List.set_cons_zero, List.set_cons_succ]
  refine wpAnyH_take (i := 8) (v := ?_) rfl (by kernel_rfl) (by kernel_rfl) (by kernel_rfl) (fun _ _ _ h => h) (Or.inl ⟨by rfl, ?_⟩) (by assumption) ?_
  rotate_left
  · (intro w hSw; (try dsimp only at hSw); go_simp; (try with_reducible rfl))
  try simp only [List.getElem_toArray, List.getElem_cons_succ, List.getElem_cons_zero, Act.put, List.setIfInBounds_toArray, List.set_cons_zero, List.set_cons_succ]
  refine wpAnyH_take (i := 9) (v := ?_) rfl (by kernel_rfl) (by kernel_rfl) (by kernel_rfl) (fun _ _ _ h => h) (Or.inl ⟨by rfl, ?_⟩) (by assumption) ?_
  rotate_left
  · (intro w hSw; (try dsimp only at hSw); go_simp; (try with_reducible rfl))
  try simp only [List.getElem_toArray, List.getElem_cons_succ, List.getElem_cons_zero, Act.put, List.setIfInBounds_toArray, List.set_cons_zero, List.set_cons_succ]
  refine wpAnyH_take (i := 10) (v := ?_) rfl (by kernel_rfl) (by kernel_rfl) (by kernel_rfl) (fun _ _ _ h => h) (Or.inl ⟨by rfl, ?_⟩) (by assumption) ?_
  rotate_left
  · (intro w hSw; (try dsimp only at hSw); go_simp; (try with_reducible rfl))
  try simp only [List.getElem_toArray, List.getElem_cons_succ, List.getElem_cons_zero, Act.put, List.setIfInBounds_toArray, List.set_cons_zero, List.set_cons_succ]
  refine wpAnyH_take (i := 11) (v := ?_) rfl (by kernel_rfl) (by kernel_rfl) (by kernel_rfl) (fun _ _ _ h => h) (Or.inl ⟨by rfl, ?_⟩) (by assumption) ?_
  rotate_left
  · (intro w hSw; (try dsimp only at hSw); go_simp; (try with_reducible rfl))
  try simp only [List.getElem_toArray, List.getElem_cons_succ, List.getElem_cons_zero, Act.put, List.setIfInBounds_toArray, List.set_cons_zero, List.set_cons_succ]
  refine wpAnyH_take (i := 12) (v := ?_) rfl (by kernel_rfl) (by kernel_rfl) (by kernel_rfl) (fun _ _ _ h => h) (Or.inl ⟨by rfl, ?_⟩) (by assumption) ?_
  rotate_left
  · (intro w hSw; (try dsimp only at hSw); go_simp; (try with_reducible rfl))
  try simp only [List.getElem_toArray, List.getElem_cons_succ, List.getElem_cons_zero, Act.put, List.setIfInBounds_toArray, List.set_cons_zero, List.set_cons_succ]
  refine wpAnyH_take (i := 13) (v := ?_) rfl (by kernel_rfl) (by kernel_rfl) (by kernel_rfl) (fun _ _ _ h => h) (Or.inl ⟨by rfl, ?_⟩) (by assumption) ?_
  rotate_left
  · (intro w hSw; (try dsimp only at hSw); go_simp; (try with_reducible rfl))
  try simp only [List.getElem_toArray, List.getElem_cons_succ, List.getElem_cons_zero, Act.put, List.setIfInBounds_toArray, List.set_cons_zero, List.set_cons_succ]
  refine wpAnyH_take (i := 14) (v := ?_) rfl (by kernel_rfl) (by kernel_rfl) (by kernel_rfl) (fun _ _ _ h => h) (Or.inl ⟨by rfl, ?_⟩) (by assumption) ?_
  rotate_left
  · (intro w hSw; (try dsimp only at hSw); go_simp; (try with_reducible rfl))
  try simp only [List.getElem_toArray, List.getElem_cons_succ, List.getElem_cons_zero, Act.put, List.setIfInBounds_toArray, List.set_cons_zero, List.set_cons_succ]
  refine wpAnyH_take (i := 15) (v := ?_) rfl (by kernel_rfl) (by kernel_rfl) (by kernel_rfl) (fun _ _ _ h => h) (Or.inl ⟨by rfl, ?_⟩) (by assumption) ?_
  rotate_left
  · (intro w hSw; (try dsimp only at hSw); go_simp; (try with_reducible rfl))
  try simp only [List.getElem_toArray, List.getElem_cons_succ, List.getElem_cons_zero, Act.put, List.setIfInBounds_toArray, List.set_cons_zero, List.set_cons_succ]
  refine wpAnyH_take (i := 16) (v := ?_) rfl (by kernel_rfl) (by kernel_rfl) (by kernel_rfl) (fun _ _ _ h => h) (Or.inl ⟨by rfl, ?_⟩) (by assumption) ?_
  rotate_left
  · (intro w hSw; (try dsimp only at hSw); go_simp; (try with_reducible rfl))
  try simp only [List.getElem_toArray, List.getElem_cons_succ, List.getElem_cons_zero, Act.put, List.setIfInBounds_toArray, List.set_cons_zero, List.set_cons_succ]
  refine wpAnyH_take (i := 17) (v := ?_) rfl (by kernel_rfl) (by kernel_rfl) (by kernel_rfl) (fun _ _ _ h => h) (Or.inl ⟨by rfl, ?_⟩) (by assumption) ?_
  rotate_left
  · (intro w hSw; (try dsimp only at hSw); go_simp; (try with_reducible rfl))
  try simp only [List.getElem_toArray, List.getElem_cons_succ, List.getElem_cons_zero, Act.put, List.setIfInBounds_toArray, List.set_cons_zero, List.set_cons_succ]
  refine wpAnyH_take (i := 18) (v := ?_) rfl (by kernel_rfl) (by kernel_rfl) (by kernel_rfl) (fun _ _ _ h => h) (Or.inl ⟨by rfl, ?_⟩) (by assumption) ?_
  rotate_left
  · (intro w hSw; (try dsimp only at hSw); go_simp; (try with_reducible rfl))
  try simp only [List.getElem_toArray, List.getElem_cons_succ, List.getElem_cons_zero, Act.put, List.setIfInBounds_toArray, List.set_cons_zero, List.set_cons_succ]
  refine wpAnyH_take (i := 19) (v := ?_) rfl (by kernel_rfl) (by kernel_rfl) (by kernel_rfl) (fun _ _ _ h => h) (Or.inl ⟨by rfl, ?_⟩) (by assumption) ?_
  rotate_left
  · (intro w hSw; (try dsimp only at hSw); go_simp; (try with_reducible rfl))
  try simp only [List.getElem_toArray, List.getElem_cons_succ, List.getElem_cons_zero, Act.put, List.setIfInBounds_toArray, List.set_cons_zero, List.set_cons_succ]
  refine wpAnyH_take (i := 20) (v := ?_) rfl (by kernel_rfl) (by kernel_rfl) (by kernel_rfl) (fun _ _ _ h => h) (Or.inl ⟨by rfl, ?_⟩) (by assumption) ?_
  rotate_left
  · (intro w hSw; (try dsimp only at hSw); go_simp; (try with_reducible rfl))
  try simp only [List.getElem_toArray, List.getElem_cons_succ, List.getElem_cons_zero, Act.put, List.setIfInBounds_toArray, List.set_cons_zero, List.set_cons_succ]
  refine wpAnyH_take (i := 21) (v := ?_) rfl (by kernel_rfl) (by kernel_rfl) (by kernel_rfl) (fun _ _ _ h => h) (Or.inl ⟨by rfl, ?_⟩) (by assumption) ?_
  rotate_left
  · (intro w hSw; (try dsimp only at hSw); go_simp; (try with_reducible rfl))
  try simp only [List.getElem_toArray, List.getElem_cons_succ, List.getElem_cons_zero, Act.put, List.setIfInBounds_toArray, List.set_cons_zero, List.set_cons_succ]
  refine wpAnyH_take (i := 22) (v := ?_) rfl (by kernel_rfl) (by kernel_rfl) (by kernel_rfl) (fun _ _ _ h => h) (Or.inl ⟨by rfl, ?_⟩) (by assumption) ?_
  rotate_left
  · (intro w hSw; (try dsimp only at hSw); go_simp; (try with_reducible rfl))
  try simp only [List.getElem_toArray, List.getElem_cons_succ, List.getElem_cons_zero, Act.put, List.setIfInBounds_toArray, List.set_cons_zero, List.set_cons_succ]
  refine wpAnyH_take (i := 23) (v := ?_) rfl (by kernel_rfl) (by kernel_rfl) (by kernel_rfl) (fun _ _ _ h => h) (Or.inl ⟨by rfl, ?_⟩) (by assumption) ?_
  rotate_left
  · (intro w hSw; (try dsimp only at hSw); go_simp; (try with_reducible rfl))
  try simp only [List.getElem_toArray, List.getElem_cons_succ, List.getElem_cons_zero, Act.put, List.setIfInBounds_toArray, List.set_cons_zero, List.set_cons_succ]
  refine wpAnyH_ready (rs := [24]) (by kernel_rfl) (by simp) (AllReadyH.cons rfl (fun K hK => ?_) AllReadyH.nil)
  go_simp
  have L2 := Lib.hid (ReadLp.lay HR1.out HB1.out HS1.out)
  rw [show w1.heap.size = w.heap.size + 1 from HS1.out]
  generalize w1.alloc (.cells #[.int .i64 0, .int .i64 0, .int .i64 0, .int .i64 0, .bool false] 25) = w2 at L2 ⊢
  refine hK.out _ _ ?_ (fun hHeld => ?_)
  · exact HCW.out _ L2.out.below
  clear hK K
  try simp only [List.getElem_toArray, List.getElem_cons_succ, List.getElem_cons_zero, Act.put, List.setIfInBounds_toArray, List.set_cons_zero, List.set_cons_succ]
  have q0 := L2.out.var.c0
  have q1 := L2.out.var.c1
  have q2 := L2.out.var.c2
  have q3 := L2.out.var.c3
  have q4 := L2.out.var.c4
  have f0 := L2.out.var.f 0
  have f1 := L2.out.var.f 1
  have f2 := L2.out.var.f 2
  have f3 := L2.out.var.f 3
  have f4 := L2.out.var.f 4
  refine wpAnyH_ready (rs := [25]) (by kernel_rfl) (by simp) (AllReadyH.cons rfl (fun K hK => ?_) AllReadyH.nil)
  go_simp
  change K _ (setDesc w2 (w.heap.size + 1) x0 y1 y2 y4 y5)
  have L3 := Lib.hid (L2.out.sets x0 y1 y2 y4 y5)
  clear q0 q1 q2 q3 q4 f0 f1 f2 f3 f4 L2
  generalize setDesc w2 (w.heap.size + 1) x0 y1 y2 y4 y5 = w3 at L3 ⊢
  refine hK.out _ _ ?_ (fun hHeld => ?_)
  · exact HCW.out _ L3.out.below
  clear hK K
  try simp only [List.getElem_toArray, List.getElem_cons_succ, List.getElem_cons_zero, Act.put, List.setIfInBounds_toArray, List.set_cons_zero, List.set_cons_succ]
  refine wpAnyH_done (by kernel_rfl) ?_ _
  clear k1 k2 k3 k4 k5 HB1 HR1 HS1
  go_upto_region 2 with fail
  have L4 : Hid (ReadLp w w3.drew ⟨x0, y1, y2, y4, y5⟩) := Lib.hid L3.out.drew
  clear L3
  cases ok
  · refine wp_region_held_drew (S := fun w' => w'.cell? ⟨(w.heap.size + 1), 0, none⟩ = some (.int .i64 x0) ∧ w'.cell? ⟨(w.heap.size + 1), 1, none⟩ = some (.int .i64 y1) ∧ w'.cell? ⟨(w.heap.size + 1), 2, none⟩ = some (.int .i64 y2) ∧ w'.cell? ⟨(w.heap.size + 1), 3, none⟩ = some (.int .i64 y4) ∧ w'.cell? ⟨(w.heap.size + 1), 4, none⟩ = some (.bool y5)) (by kernel_rfl) (⟨L4.out.var.c0, L4.out.var.c1, L4.out.var.c2, L4.out.var.c3, L4.out.var.c4⟩) (fun hHeld => ?_)
    generalize w3.drew = w4 at L4 hHeld ⊢
    refine wpAnyH_take (i := 0) (v := ?_) rfl (by kernel_rfl) (by kernel_rfl) (by kernel_rfl) (fun _ _ _ h => h) (Or.inl ⟨by rfl, ?_⟩) (by assumption) ?_
    rotate_left
    · (intro w hSw; (try dsimp only at hSw); go_simp; (try with_reducible rfl))
    try simp only [List.getElem_toArray, List.getElem_cons_succ, List.getElem_cons_zero, Act.put, List.setIfInBounds_toArray, List.set_cons_zero, List.set_cons_succ]
    refine wpAnyH_take (i := 1) (v := ?_) rfl (by kernel_rfl) (by kernel_rfl) (by kernel_rfl) (fun _ _ _ h => h) (Or.inl ⟨by rfl, ?_⟩) (by assumption) ?_
    rotate_left
    · (intro w hSw; (try dsimp only at hSw); go_simp; (try with_reducible rfl))
    try simp only [List.getElem_toArray, List.getElem_cons_succ, List.getElem_cons_zero, Act.put, List.setIfInBounds_toArray, List.set_cons_zero, List.set_cons_succ]
    refine wpAnyH_ready (rs := [2]) (by kernel_rfl) (by simp) (AllReadyH.cons rfl (fun K hK => ?_) AllReadyH.nil)
    go_simp
    refine (HDI.out _).mono ?_
    rintro e w5 ⟨rfl, b5⟩
    have L5 := Lib.hid (L4.out.call b5)
    clear b5
    go_wp2_with fail
    refine hK.out _ _ ?_ (fun hHeld => ?_)
    · exact ⟨L5.out.var.c0, L5.out.var.c1, L5.out.var.c2, L5.out.var.c3, L5.out.var.c4⟩
    clear hK K
    try simp only [List.getElem_toArray, List.getElem_cons_succ, List.getElem_cons_zero, Act.put, List.setIfInBounds_toArray, List.set_cons_zero, List.set_cons_succ]
    refine wpAnyH_take (i := 3) (v := ?_) rfl (by kernel_rfl) (by kernel_rfl) (by kernel_rfl) (fun _ _ _ h => h) (Or.inl ⟨by rfl, ?_⟩) (by assumption) ?_
    rotate_left
    · (intro w hSw; (try dsimp only at hSw); go_simp; (try with_reducible rfl))
    try simp only [List.getElem_toArray, List.getElem_cons_succ, List.getElem_cons_zero, Act.put, List.setIfInBounds_toArray, List.set_cons_zero, List.set_cons_succ]
    refine wpAnyH_take (i := 4) (v := undef) rfl (by kernel_rfl) (by kernel_rfl) (by kernel_rfl) (fun _ _ _ h => h) (Or.inr ⟨by rfl, rfl⟩) (by assumption) ?_
    try simp only [List.getElem_toArray, List.getElem_cons_succ, List.getElem_cons_zero, Act.put, List.setIfInBounds_toArray, List.set_cons_zero, List.set_cons_succ]
    refine wpAnyH_take (i := 5) (v := undef) rfl (by kernel_rfl) (by kernel_rfl) (by kernel_rfl) (fun _ _ _ h => h) (Or.inr ⟨by rfl, rfl⟩) (by assumption) ?_
    try simp only [List.getElem_toArray, List.getElem_cons_succ, List.getElem_cons_zero, Act.put, List.setIfInBounds_toArray, List.set_cons_zero, List.set_cons_succ]
    refine wpAnyH_take (i := 6) (v := undef) rfl (by kernel_rfl) (by kernel_rfl) (by kernel_rfl) (fun _ _ _ h => h) (Or.inr ⟨by rfl, rfl⟩) (by assumption) ?_
    try simp only [List.getElem_toArray, List.getElem_cons_succ, List.getElem_cons_zero, Act.put, List.setIfInBounds_toArray, List.set_cons_zero, List.set_cons_succ]
    refine wpAnyH_take (i := 7) (v := undef) rfl (by kernel_rfl) (by kernel_rfl) (by kernel_rfl) (fun _ _ _ h => h) (Or.inr ⟨by rfl, rfl⟩) (by assumption) ?_
    try simp only [List.getElem_toArray, List.getElem_cons_succ, List.getElem_cons_zero, Act.put, List.setIfInBounds_toArray, List.set_cons_zero, List.set_cons_succ]
    refine wpAnyH_take (i := 8) (v := ?_) rfl (by kernel_rfl) (by kernel_rfl) (by kernel_rfl) (fun _ _ _ h => h) (Or.inl ⟨by rfl, ?_⟩) (by assumption) ?_
    rotate_left
    · (intro w hSw; (try dsimp only at hSw); go_simp; (try with_reducible rfl))
    try simp only [List.getElem_toArray, List.getElem_cons_succ, List.getElem_cons_zero, Act.put, List.setIfInBounds_toArray, List.set_cons_zero, List.set_cons_succ]
    have d0 := L5.out.res.c0
    have d1 := L5.out.res.c1
    have d2 := L5.out.res.c2
    have d3 := L5.out.res.c3
    have d4 := L5.out.res.c4
    have f0 := L5.out.res.f 0
    have f1 := L5.out.res.f 1
    have f2 := L5.out.res.f 2
    have f3 := L5.out.res.f 3
    have f4 := L5.out.res.f 4
    have VF := L5.out.varFin x0 y1 y2 y4 y5
    refine wpAnyH_ready (rs := [9]) (by kernel_rfl) (by simp) (AllReadyH.cons rfl (fun K hK => ?_) AllReadyH.nil)
    go_simp
    clear d0 d1 d2 d3 d4 f0 f1 f2 f3 f4
    change K _ (setDesc w5 w.heap.size x0 y1 y2 y4 y5)
    obtain ⟨SF, BF⟩ := L5.out.fin x0 y1 y2 y4 y5
    generalize setDesc w5 w.heap.size x0 y1 y2 y4 y5 = wz at SF BF VF ⊢
    refine hK.out _ _ ?_ (fun hHeld => ?_)
    · exact ⟨VF.c0, VF.c1, VF.c2, VF.c3, VF.c4⟩
    clear hK K VF
    try simp only [List.getElem_toArray, List.getElem_cons_succ, List.getElem_cons_zero, Act.put, List.setIfInBounds_toArray, List.set_cons_zero, List.set_cons_succ]
    refine wpAnyH_take (i := 10) (v := ?_) rfl (by kernel_rfl) (by kernel_rfl) (by kernel_rfl) (fun _ _ _ h => h) (Or.inl ⟨by rfl, ?_⟩) (by assumption) ?_
    rotate_left
    · (intro w hSw; (try dsimp only at hSw); go_simp; (try with_reducible rfl))
    try simp only [List.getElem_toArray, List.getElem_cons_succ, List.getElem_cons_zero, Act.put, List.setIfInBounds_toArray, List.set_cons_zero, List.set_cons_succ]
    refine wpAnyH_done (by kernel_rfl) ?_ _
    have e0 := SF.c0
    have e1 := SF.c1
    have e2 := SF.c2
    have e3 := SF.c3
    have e4 := SF.c4
    go_wp2_with fail
    exact bodyPost_ret (v := .tuple #[.agg #[.int .i64 x0, .int .i64 y1, .int .i64 y2, .int .i64 y4, .bool y5], .bool false]) (by simp [results, Try.results55, go_sem, e0, e1, e2, e3, e4]) rfl ⟨by rfl, BF⟩
  · refine wp_region_held_drew (S := fun w' => w'.cell? ⟨(w.heap.size + 1), 0, none⟩ = some (.int .i64 x0) ∧ w'.cell? ⟨(w.heap.size + 1), 1, none⟩ = some (.int .i64 y1) ∧ w'.cell? ⟨(w.heap.size + 1), 2, none⟩ = some (.int .i64 y2) ∧ w'.cell? ⟨(w.heap.size + 1), 3, none⟩ = some (.int .i64 y4) ∧ w'.cell? ⟨(w.heap.size + 1), 4, none⟩ = some (.bool y5)) (by kernel_rfl) (⟨L4.out.var.c0, L4.out.var.c1, L4.out.var.c2, L4.out.var.c3, L4.out.var.c4⟩) (fun hHeld => ?_)
    generalize w3.drew = w4 at L4 hHeld ⊢
    refine wpAnyH_take (i := 0) (v := ?_) rfl (by kernel_rfl) (by kernel_rfl) (by kernel_rfl) (fun _ _ _ h => h) (Or.inl ⟨by rfl, ?_⟩) (by assumption) ?_
    rotate_left
    · (intro w hSw; (try dsimp only at hSw); go_simp; (try with_reducible rfl))
    try simp only [List.getElem_toArray, List.getElem_cons_succ, List.getElem_cons_zero, Act.put, List.setIfInBounds_toArray, List.set_cons_zero, List.set_cons_succ]
    refine wpAnyH_take (i := 1) (v := ?_) rfl (by kernel_rfl) (by kernel_rfl) (by kernel_rfl) (fun _ _ _ h => h) (Or.inl ⟨by rfl, ?_⟩) (by assumption) ?_
    rotate_left
    · (intro w hSw; (try dsimp only at hSw); go_simp; (try with_reducible rfl))
    try simp only [List.getElem_toArray, List.getElem_cons_succ, List.getElem_cons_zero, Act.put, List.setIfInBounds_toArray, List.set_cons_zero, List.set_cons_succ]
    refine wpAnyH_ready (rs := [2]) (by kernel_rfl) (by simp) (AllReadyH.cons rfl (fun K hK => ?_) AllReadyH.nil)
    go_simp
    refine (HDI.out _).mono ?_
    rintro e w5 ⟨rfl, b5⟩
    have L5 := Lib.hid (L4.out.call b5)
    clear b5
    go_wp2_with fail
    refine hK.out _ _ ?_ (fun hHeld => ?_)
    · exact ⟨L5.out.var.c0, L5.out.var.c1, L5.out.var.c2, L5.out.var.c3, L5.out.var.c4⟩
    clear hK K
    try simp only [List.getElem_toArray, List.getElem_cons_succ, List.getElem_cons_zero, Act.put, List.setIfInBounds_toArray, List.set_cons_zero, List.set_cons_succ]
    refine wpAnyH_take (i := 3) (v := ?_) rfl (by kernel_rfl) (by kernel_rfl) (by kernel_rfl) (fun _ _ _ h => h) (Or.inl ⟨by rfl, ?_⟩) (by assumption) ?_
    rotate_left
    · (intro w hSw; (try dsimp only at hSw); go_simp; (try with_reducible rfl))
    try simp only [List.getElem_toArray, List.getElem_cons_succ, List.getElem_cons_zero, Act.put, List.setIfInBounds_toArray, List.set_cons_zero, List.set_cons_succ]
    refine wpAnyH_take (i := 4) (v := ?_) rfl (by kernel_rfl) (by kernel_rfl) (by kernel_rfl) (fun _ _ _ h => h) (Or.inl ⟨by rfl, ?_⟩) (by assumption) ?_
    rotate_left
    · (intro w hSw; (try dsimp only at hSw); go_simp; (try with_reducible rfl))
    try simp only [List.getElem_toArray, List.getElem_cons_succ, List.getElem_cons_zero, Act.put, List.setIfInBounds_toArray, List.set_cons_zero, List.set_cons_succ]
    refine wpAnyH_take (i := 6) (v := ?_) rfl (by kernel_rfl) (by kernel_rfl) (by kernel_rfl) (fun _ _ _ h => h) (Or.inl ⟨by rfl, ?_⟩) (by assumption) ?_
    rotate_left
    · (intro w hSw; (try dsimp only at hSw); go_simp; (try with_reducible rfl))
    try simp only [List.getElem_toArray, List.getElem_cons_succ, List.getElem_cons_zero, Act.put, List.setIfInBounds_toArray, List.set_cons_zero, List.set_cons_succ]
    refine wpAnyH_ready (rs := [5]) (by kernel_rfl) (by simp) (AllReadyH.cons rfl (fun K hK => ?_) AllReadyH.nil)
    go_simp
    refine (HYB.out _ (HIN.out (by first | exact rfl | trivial))).mono ?_
    rintro e w6 m6
    obtain ⟨p6, c6, rfl, -, r6, b6⟩ := m6.get
    have L6 := Lib.hid (L5.out.call b6)
    have R6 := Lib.hid r6
    clear b6 m6 r6
    go_wp2_with fail
    refine hK.out _ _ ?_ (fun hHeld => ?_)
    · exact ⟨L6.out.var.c0, L6.out.var.c1, L6.out.var.c2, L6.out.var.c3, L6.out.var.c4⟩
    clear hK K
    try simp only [List.getElem_toArray, List.getElem_cons_succ, List.getElem_cons_zero, Act.put, List.setIfInBounds_toArray, List.set_cons_zero, List.set_cons_succ]
    refine wpAnyH_ready (rs := [7]) (by kernel_rfl) (by simp) (AllReadyH.cons rfl (fun K hK => ?_) AllReadyH.nil)
    go_simp
    refine (same_any _ _ _ _ _ _ _ _ _ R6.out (HR.out.keep (fun b o hlt => L6.out.below.cell (p := ⟨b, o, none⟩) hlt)) (by have := HBL.out; omega) (by omega)).mono ?_
    rintro e w7 ⟨rfl, q7, rfl⟩
    have L7 := Lib.hid (L6.out.call (below_drewN' (Below.refl _ _) q7))
    go_wp2_with fail
    refine hK.out _ _ ?_ (fun hHeld => ?_)
    · exact ⟨L7.out.var.c0, L7.out.var.c1, L7.out.var.c2, L7.out.var.c3, L7.out.var.c4⟩
    clear hK K
    try simp only [List.getElem_toArray, List.getElem_cons_succ, List.getElem_cons_zero, Act.put, List.setIfInBounds_toArray, List.set_cons_zero, List.set_cons_succ]
    refine wpAnyH_take (i := 8) (v := ?_) rfl (by kernel_rfl) (by kernel_rfl) (by kernel_rfl) (fun _ _ _ h => h) (Or.inl ⟨by rfl, ?_⟩) (by assumption) ?_
    rotate_left
    · (intro w hSw; (try dsimp only at hSw); go_simp; (try with_reducible rfl))
    try simp only [List.getElem_toArray, List.getElem_cons_succ, List.getElem_cons_zero, Act.put, List.setIfInBounds_toArray, List.set_cons_zero, List.set_cons_succ]
    have d0 := L7.out.res.c0
    have d1 := L7.out.res.c1
    have d2 := L7.out.res.c2
    have d3 := L7.out.res.c3
    have d4 := L7.out.res.c4
    have f0 := L7.out.res.f 0
    have f1 := L7.out.res.f 1
    have f2 := L7.out.res.f 2
    have f3 := L7.out.res.f 3
    have f4 := L7.out.res.f 4
    have VF := L7.out.varFin x0 y1 y2 y4 y5
    refine wpAnyH_ready (rs := [9]) (by kernel_rfl) (by simp) (AllReadyH.cons rfl (fun K hK => ?_) AllReadyH.nil)
    go_simp
    clear d0 d1 d2 d3 d4 f0 f1 f2 f3 f4
    change K _ (setDesc (w6.drewN q7) w.heap.size x0 y1 y2 y4 y5)
    obtain ⟨SF, BF⟩ := L7.out.fin x0 y1 y2 y4 y5
    generalize setDesc (w6.drewN q7) w.heap.size x0 y1 y2 y4 y5 = wz at SF BF VF ⊢
    refine hK.out _ _ ?_ (fun hHeld => ?_)
    · exact ⟨VF.c0, VF.c1, VF.c2, VF.c3, VF.c4⟩
    clear hK K VF
    try simp only [List.getElem_toArray, List.getElem_cons_succ, List.getElem_cons_zero, Act.put, List.setIfInBounds_toArray, List.set_cons_zero, List.set_cons_succ]
    refine wpAnyH_take (i := 10) (v := ?_) rfl (by kernel_rfl) (by kernel_rfl) (by kernel_rfl) (fun _ _ _ h => h) (Or.inl ⟨by rfl, ?_⟩) (by assumption) ?_
    rotate_left
    · (intro w hSw; (try dsimp only at hSw); go_simp; (try with_reducible rfl))
    try simp only [List.getElem_toArray, List.getElem_cons_succ, List.getElem_cons_zero, Act.put, List.setIfInBounds_toArray, List.set_cons_zero, List.set_cons_succ]
    refine wpAnyH_done (by kernel_rfl) ?_ _
    have e0 := SF.c0
    have e1 := SF.c1
    have e2 := SF.c2
    have e3 := SF.c3
    have e4 := SF.c4
    go_wp2_with fail
    exact bodyPost_ret (v := .tuple #[.agg #[.int .i64 x0, .int .i64 y1, .int .i64 y2, .int .i64 y4, .bool y5], .bool (true && decide (fb = [x0, x1, x2, x3, x4]))]) (by simp [results, Try.results55, go_sem, e0, e1, e2, e3, e4]) rfl ⟨by rfl, BF⟩
theorem sDescFromBytes_any (ao : Option Addr) (n cap : Nat) (xs : List Int) (w : World) (hr : Rd w ao n xs) (hn : n ≤ 9223372036854775807) : Calls Try.prog 20 #[.slice ao n cap] w fun e w' => e = .returned (.tuple #[.agg #[.int .i64 (descFrom xs).1.node, .int .i64 (descFrom xs).1.kind, .int .i64 (descFrom xs).1.size, .int .i64 (descFrom xs).1.dur, .bool (descFrom xs).1.chg], .int .i64 (descFrom xs).2]) ∧ Below w.heap.size w w' := by
  have hl := hr.len
  by_cases h5 : n = 5
  rotate_left
  · rw [descFrom_len (by omega)]
    have t1 : ((n : Int) != 5) = true := by simp; omega
    clear hl hr
    go_enter Try.func20, Try.ntmps20
    go_wp2
    exact bodyPost_ret (v := .tuple #[.agg #[.int .i64 0, .int .i64 0, .int .i64 0, .int .i64 0, .bool false], .int .i64 6]) (by simp [results, Try.results20, go_sem]) rfl ⟨rfl, (Below.refl _ _).alloc (Nat.le_refl _) _⟩
  subst h5
  have hB : Below w.heap.size w (w.alloc (.cells #[.int .i64 0, .int .i64 0, .int .i64 0, .int .i64 0, .bool false] 25)) := (Below.refl _ _).alloc (Nat.le_refl _) _
  have hR : DescAt 25 (w.alloc (.cells #[.int .i64 0, .int .i64 0, .int .i64 0, .int .i64 0, .bool false] 25)) w.heap.size 0 0 0 0 false := DescAt.new w
  have hq := hr.below hB
  rcases hb : isBytes xs with _ | _
  · rw [descFrom_nobytes hb]
    have HQ := Lib.hid hq; have HBT := Lib.hid hb
    clear hl hr hB hR hq hb
    go_enter Try.func20, Try.ntmps20
    go_wp2_with (go_at_call 54; refine (sIsBytes_any _ _ _ _ _ HQ.out (by omega)).mono ?_; rintro e w' ⟨rfl, rfl⟩; rw [HBT.out])
    exact bodyPost_ret (v := .tuple #[.agg #[.int .i64 0, .int .i64 0, .int .i64 0, .int .i64 0, .bool false], .int .i64 6]) (by simp [results, Try.results20, go_sem]) rfl ⟨rfl, (Below.refl _ _).alloc (Nat.le_refl _) _⟩
  obtain ⟨x0, x1, x2, x3, x4, rfl⟩ := list_five hl
  obtain ⟨b, off, rfl, -⟩ := hr.here (by omega)
  have hf := fun (W : World) (h : Rd W (some ⟨b, off, none⟩) 5 [x0, x1, x2, x3, x4]) => l08From_any b off cap x0 x1 x2 x3 x4 W h hb
  rw [descFrom_bytes hb]
  have hif : (if isDesc (descRead x0 x1 x2 x3 x4) = true ∧ descBytes (descRead x0 x1 x2 x3 x4) = [x0, x1, x2, x3, x4] then (descRead x0 x1 x2 x3 x4, (0 : Int)) else (Ds.zero, 6)) = if (isDesc (descRead x0 x1 x2 x3 x4) && decide (descBytes (descRead x0 x1 x2 x3 x4) = [x0, x1, x2, x3, x4])) = true then (descRead x0 x1 x2 x3 x4, (0 : Int)) else (Ds.zero, 6) := by simp
  rw [hif]
  clear hif
  generalize (isDesc (descRead x0 x1 x2 x3 x4) && decide (descBytes (descRead x0 x1 x2 x3 x4) = [x0, x1, x2, x3, x4])) = ok at hf ⊢
  generalize descRead x0 x1 x2 x3 x4 = d at hf ⊢
  obtain ⟨n, a, z, u, c⟩ := d
  simp only at hf
  have HQ := Lib.hid hq; have HBT := Lib.hid hb; have HF := Lib.hid hf; have HBB := Lib.hid hB; have HRR := Lib.hid hR
  clear hl hr hB hR hq hb hf
  cases ok
  · rw [if_neg (by simp)]
    go_enter Try.func20, Try.ntmps20
    go_upto_region 3 with (go_at_call 54; refine (sIsBytes_any _ _ _ _ _ HQ.out (by omega)).mono ?_; rintro e w' ⟨rfl, rfl⟩; rw [HBT.out])
    generalize w.alloc (.cells #[.int .i64 0, .int .i64 0, .int .i64 0, .int .i64 0, .bool false] 25) = w0 at HQ HBB HRR ⊢
    go_wp2_with (go_at_call 55; refine (HF.out _ HQ.out).mono ?_; rintro e w1 ⟨rfl, b1⟩; have L1 := HRR.out.below b1 HRR.out.lt; have LA := fun o => L1.below ((Below.refl w1.heap.size w1).alloc (Nat.le_refl _) o) L1.lt; have q0 := fun o => (LA o).c0; have f0 := fun o => (LA o).f 0; have q1 := fun o => (LA o).c1; have f1 := fun o => (LA o).f 1; have q2 := fun o => (LA o).c2; have f2 := fun o => (LA o).f 2; have q3 := fun o => (LA o).c3; have f3 := fun o => (LA o).f 3; have q4 := fun o => (LA o).c4; have f4 := fun o => (LA o).f 4; have HLA := Lib.hid LA; have B1 := Lib.hid (below_two HBB.out b1); clear b1 LA L1)
    clear q0 q1 q2 q3 q4 f0 f1 f2 f3 f4
    change bodyPost _ _ _ _ _ (setDesc (w1.alloc (.cells #[.int .i64 n, .int .i64 a, .int .i64 z, .int .i64 u, .bool c] 25)) w.heap.size 0 0 0 0 false)
    have SF := (HLA.out (.cells #[.int .i64 n, .int .i64 a, .int .i64 z, .int .i64 u, .bool c] 25)).five 0 0 0 0 false
    have BF := (below_two B1.out ((Below.refl w1.heap.size w1).alloc (Nat.le_refl _) (.cells #[.int .i64 n, .int .i64 a, .int .i64 z, .int .i64 u, .bool c] 25))).trans (below_desc (B := w.heap.size) (Nat.le_refl _) 0 0 0 0 false)
    generalize setDesc (w1.alloc (.cells #[.int .i64 n, .int .i64 a, .int .i64 z, .int .i64 u, .bool c] 25)) w.heap.size 0 0 0 0 false = wz at SF BF ⊢
    have e0 := SF.c0; have e1 := SF.c1; have e2 := SF.c2; have e3 := SF.c3; have e4 := SF.c4
    exact bodyPost_ret (v := .tuple #[.agg #[.int .i64 0, .int .i64 0, .int .i64 0, .int .i64 0, .bool false], .int .i64 6]) (by simp [results, Try.results20, go_sem, e0, e1, e2, e3, e4]) rfl ⟨rfl, BF⟩
  · rw [if_pos rfl]
    go_enter Try.func20, Try.ntmps20
    go_upto_region 3 with (go_at_call 54; refine (sIsBytes_any _ _ _ _ _ HQ.out (by omega)).mono ?_; rintro e w' ⟨rfl, rfl⟩; rw [HBT.out])
    generalize w.alloc (.cells #[.int .i64 0, .int .i64 0, .int .i64 0, .int .i64 0, .bool false] 25) = w0 at HQ HBB HRR ⊢
    go_wp2_with (go_at_call 55; refine (HF.out _ HQ.out).mono ?_; rintro e w1 ⟨rfl, b1⟩; have L1 := HRR.out.below b1 HRR.out.lt; have LA := fun o => L1.below ((Below.refl w1.heap.size w1).alloc (Nat.le_refl _) o) L1.lt; have q0 := fun o => (LA o).c0; have f0 := fun o => (LA o).f 0; have q1 := fun o => (LA o).c1; have f1 := fun o => (LA o).f 1; have q2 := fun o => (LA o).c2; have f2 := fun o => (LA o).f 2; have q3 := fun o => (LA o).c3; have f3 := fun o => (LA o).f 3; have q4 := fun o => (LA o).c4; have f4 := fun o => (LA o).f 4; have HLA := Lib.hid LA; have B1 := Lib.hid (below_two HBB.out b1); clear b1 LA L1)
    clear q0 q1 q2 q3 q4 f0 f1 f2 f3 f4
    change bodyPost _ _ _ _ _ (setDesc (w1.alloc (.cells #[.int .i64 n, .int .i64 a, .int .i64 z, .int .i64 u, .bool c] 25)) w.heap.size n a z u c)
    have SF := (HLA.out (.cells #[.int .i64 n, .int .i64 a, .int .i64 z, .int .i64 u, .bool c] 25)).five n a z u c
    have BF := (below_two B1.out ((Below.refl w1.heap.size w1).alloc (Nat.le_refl _) (.cells #[.int .i64 n, .int .i64 a, .int .i64 z, .int .i64 u, .bool c] 25))).trans (below_desc (B := w.heap.size) (Nat.le_refl _) n a z u c)
    generalize setDesc (w1.alloc (.cells #[.int .i64 n, .int .i64 a, .int .i64 z, .int .i64 u, .bool c] 25)) w.heap.size n a z u c = wz at SF BF ⊢
    have e0 := SF.c0; have e1 := SF.c1; have e2 := SF.c2; have e3 := SF.c3; have e4 := SF.c4
    exact bodyPost_ret (v := .tuple #[.agg #[.int .i64 n, .int .i64 a, .int .i64 z, .int .i64 u, .bool c], .int .i64 0]) (by simp [results, Try.results20, go_sem, e0, e1, e2, e3, e4]) rfl ⟨rfl, BF⟩
end Go.Proofs.Ytjejflngaelgkaa
