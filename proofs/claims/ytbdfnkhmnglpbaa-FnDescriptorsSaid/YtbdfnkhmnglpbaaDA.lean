/-
  Chapter 8: descriptors drawn: l08Draw, l08DrawAny.
-/
import Derived.Test.YtbdfnkhmnglpbaaEigB
import Derived.Test.YtbdfnkhmnglpbaaDrawA
namespace Go.Proofs.Ytbdfnkhmnglpbaa
open Go.RowKit

/-- While a descriptor is drawn: the result, still the zero value; the descriptor so far in block J; the source. -/
structure DrawDs (w wi : World) (p J : Nat) (n a z u : Int) (c : Bool) : Prop where
  res : DescAt 49 wi w.heap.size 0 0 0 0 false
  var : DescAt 49 wi J n a z u c
  lt : w.heap.size < J
  src : Src 133 wi p
  grown : w.grownBy wi (some p)
  hp : p < w.heap.size
section
variable {w wi wj : World} {p J : Nat} {n a z u : Int} {c : Bool}
theorem DrawDs.next (h : DrawDs w wi p J n a z u c) (hs : Src 133 wj p) (g : wi.grownBy wj (some p)) : DrawDs w wj p J n a z u c :=
  have h1 := h.hp
  have h2 := h.lt
  ⟨h.res.grown g (by simp; omega), h.var.grown g (by simp; omega), h.lt, hs, grown_trans h.grown g, h.hp⟩
theorem DrawDs.call (h : DrawDs w wi p J n a z u c) (b : Below wi.heap.size wi wj) : DrawDs w wj p J n a z u c :=
  ⟨h.res.below b h.res.lt, h.var.below b h.var.lt, h.lt, h.src.below b, grown_trans h.grown (grown_of_below b), h.hp⟩
theorem DrawDs.step {n' a' z' u' : Int} {c' : Bool} (h : DrawDs w wi p J n a z u c) (b : Below J wi wj) (hv : DescAt 49 wj J n' a' z' u' c') : DrawDs w wj p J n' a' z' u' c' :=
  have h1 := h.hp
  have h2 := h.lt
  ⟨h.res.below b h.lt, hv, h.lt, h.src.belowB b (by omega), grown_step h.grown b (by omega), h.hp⟩
theorem DrawDs.cell {n' a' z' u' : Int} {c' : Bool} (h : DrawDs w wi p J n a z u c) (i : Nat) (v : Value) (hv : DescAt 49 (wi.setCell ⟨J, i, none⟩ v) J n' a' z' u' c') : DrawDs w (wi.setCell ⟨J, i, none⟩ v) p J n' a' z' u' c' := h.step ((Below.refl J wi).setCell (by exact Nat.le_refl _) _) hv
theorem DrawDs.fin (h : DrawDs w wi p J n a z u c) : DescAt 49 (setDesc wi w.heap.size n a z u c) w.heap.size n a z u c ∧ Src 133 (setDesc wi w.heap.size n a z u c) p ∧ w.grownBy (setDesc wi w.heap.size n a z u c) (some p) := by
  have b : Below w.heap.size wi (setDesc wi w.heap.size n a z u c) := below_desc (Nat.le_refl _) _ _ _ _ _
  exact ⟨h.res.five n a z u c, h.src.belowB b h.hp, grown_step h.grown b (Nat.le_refl _)⟩
end
/-- The descriptor's block is laid. -/
theorem DrawDs.start {w w2 : World} {p : Nat} {n a z u : Int} {c : Bool} (r : DescAt 49 w2 w.heap.size 0 0 0 0 false) (hs : Src 133 w2 p) (g : w.grownBy w2 (some p)) (hp : p < w.heap.size) : DrawDs w (w2.alloc (.cells #[.int .i64 n, .int .i64 a, .int .i64 z, .int .i64 u, .bool c] 49)) p w2.heap.size n a z u c :=
  have b1 : Below w2.heap.size w2 (w2.alloc (.cells #[.int .i64 n, .int .i64 a, .int .i64 z, .int .i64 u, .bool c] 49)) := (Below.refl _ _).alloc (Nat.le_refl _) _
  ⟨r.below b1 r.lt, DescAt.new w2, r.lt, hs.below b1, grown_trans g (grown_of_below b1), hp⟩
/-- What a draw of a descriptor leaves. -/
def DrawnAny8 (w : World) (p : Nat) (e : Ending) (w' : World) : Prop :=
  ∃ (n a z u : Int) (c : Bool), e = .returned (.agg #[.int .i64 n, .int .i64 a, .int .i64 z, .int .i64 u, .bool c]) ∧ Src 133 w' p ∧ w.grownBy w' (some p)
/-- The same, where the numbers are those of a frame that can be sent. -/
def DrawnDs (w : World) (p : Nat) (e : Ending) (w' : World) : Prop :=
  ∃ (n a z u : Int) (c : Bool), e = .returned (.agg #[.int .i64 n, .int .i64 a, .int .i64 z, .int .i64 u, .bool c]) ∧ (kindOk a = true ∧ sizeOk a z = true ∧ 0 ≤ u ∧ u ≤ 1000) ∧ Src 133 w' p ∧ w.grownBy w' (some p)
theorem drawn_in {n a z u : Int} {c : Bool} (h : kindOk a = true ∧ sizeOk a z = true ∧ 0 ≤ u ∧ u ≤ 1000) : descIn ⟨n, a, z, u, c⟩ := ⟨inRange_iff.1 h.1, sizeOk_le h.2.1, h.2.2⟩

set_option maxHeartbeats 4000000 in
set_option maxRecDepth 100000 in
theorem l08Draw_any (p : Nat) (w : World) (hs : Src 133 w p) : Calls Try.prog 101 #[.pointer (some ⟨p, 0, none⟩)] w (DrawnDs w p) := by
  have hp := hs.lt
  have HA := Lib.hid (Below.alloc (Below.refl w.heap.size w) (Nat.le_refl _) (.cells #[.int .i64 0, .int .i64 0, .int .i64 0, .int .i64 0, .bool false] 49))
  have S0 := Lib.hid (hs.below HA.out)
  have R0 := Lib.hid (DescAt.new (T := 49) (n := 0) (a := 0) (z := 0) (u := 0) (c := false) w)
  have G0 := Lib.hid (grown_of_below (g := some p) HA.out)
  clear hs HA
  go_enter Try.func101, Try.ntmps101
  go_upto_region 1 with fail
  generalize w.alloc (.cells #[.int .i64 0, .int .i64 0, .int .i64 0, .int .i64 0, .bool false] 49) = w0 at S0 R0 G0 ⊢
  go_wp2_with fail
  refine (next_any _ _ _ S0.out (by omega)).mono ?_
  rintro e w1 ⟨n, rfl, -, -, -, hs1, g1⟩
  have S1 := Lib.hid hs1; have R1 := Lib.hid (R0.out.grown g1 (by simp; omega)); have G1 := Lib.hid (grown_trans G0.out g1)
  clear hs1 g1 S0 R0 G0
  go_wp2_with fail
  refine (next_any _ _ _ S1.out (by omega)).mono ?_
  rintro e w2 ⟨a, rfl, a0, a1, -, hs2, g2⟩
  have S2 := Lib.hid hs2; have R2 := Lib.hid (R1.out.grown g2 (by simp; omega)); have G2 := Lib.hid (grown_trans G1.out g2)
  clear hs2 g2 S1 R1 G1
  go_wp2_with fail
  refine (next_any _ _ _ S2.out (by omega)).mono ?_
  rintro e w3 ⟨b, rfl, -, -, -, hs3, g3⟩
  have S3 := Lib.hid hs3; have R3 := Lib.hid (R2.out.grown g3 (by simp; omega)); have G3 := Lib.hid (grown_trans G2.out g3)
  clear hs3 g3 S2 R2 G2
  have hA : a = 0 ∨ a = 1 ∨ a = 2 ∨ a = 3 := by have := a1 (by omega); omega
  clear a0 a1
  obtain ⟨c, hc⟩ : ∃ c, (b == 0) = c := ⟨_, rfl⟩
  have D3 := Lib.hid (DrawDs.start (n := n) (a := a) (z := 0) (u := 0) (c := c) R3.out S3.out G3.out hp)
  clear S3 R3 G3
  go_upto_region 2 with fail
  obtain ⟨J, hJ⟩ : ∃ b, b = w3.heap.size := ⟨_, rfl⟩
  rw [← hJ] at D3 ⊢
  clear hJ hc
  generalize w3.alloc (.cells #[.int .i64 n, .int .i64 a, .int .i64 0, .int .i64 0, .bool c] 49) = w4 at D3 ⊢
  rcases hA with rfl | rfl | rfl | rfl
  · have c1 := D3.out.var.c1
    go_wp2_with fail
    refine (l06Data_any _ _).mono ?_
    rintro e w5 ⟨rfl, rfl⟩
    rw [show hasData 0 = true from rfl]
    clear c1
    go_wp2_with fail
    refine (next_any _ _ _ D3.out.src (by omega)).mono ?_
    rintro e w5 ⟨x, rfl, x0, x1, -, hs5, g5⟩
    have D5 := Lib.hid (D3.out.next hs5 g5)
    clear hs5 g5 D3
    replace x1 := x1 (by omega)
    obtain ⟨z, hz⟩ : ∃ z, 1 + x = z := ⟨_, rfl⟩
    have hw : IntKind.i64.wrap (1 + x) = z := by rw [IntKind.wrap_i64]; omega
    have hzz : sizeOk 0 z = true := by unfold sizeOk; simp [inRange]; omega
    have HZZ := Lib.hid hzz
    clear x0 x1 hz hzz
    have c2 := D5.out.var.c2; have f2 := D5.out.var.f 2
    go_upto_region 4 with fail
    clear c2 f2 hw
    have D6 := Lib.hid (D5.out.cell 2 (.int .i64 z) (D5.out.var.set2 z))
    generalize w5.setCell ⟨J, 2, none⟩ (.int .i64 z) = w6 at D6 ⊢
    clear D5
    have c1 := D6.out.var.c1
    go_upto_region 6 with fail
    clear c1
    have hcl := fun (W : World) => l08Cells_any 0 z W rfl HZZ.out
    have hin := cells_in 0 z
    have hok : kindOk 0 = true ∧ sizeOk 0 z = true := ⟨rfl, HZZ.out⟩
    have HOK := Lib.hid hok; clear hok
    generalize cellsOf8 0 z = y at hcl hin
    have HC := Lib.hid hcl; clear hcl
    have hw : IntKind.i64.wrap (y + 20) = y + 20 := by rw [IntKind.wrap_i64]; omega
    have c1 := D6.out.var.c1; have c2 := D6.out.var.c2
    go_wp2_with fail
    refine (HC.out _).mono ?_
    rintro e w6 ⟨rfl, rfl⟩
    go_wp2_with fail
    clear c1 c2
    refine (next_any _ _ _ D6.out.src (by omega)).mono ?_
    rintro e w7 ⟨r, rfl, r0, r1, -, hs7, g7⟩
    have D7 := Lib.hid (D6.out.next hs7 g7)
    clear hs7 g7 D6
    replace r1 := r1 (by omega)
    obtain ⟨v, hv⟩ : ∃ v, y + 20 + r = v := ⟨_, rfl⟩
    have hw2 : IntKind.i64.wrap (y + 20 + r) = v := by rw [IntKind.wrap_i64]; omega
    have HVV : Hid (0 ≤ v ∧ v ≤ 1000) := Lib.hid (by omega)
    clear r0 r1 hv hin
    have c3 := D7.out.var.c3; have f3 := D7.out.var.f 3
    go_upto_region 7 with fail
    clear c3 f3 hw hw2
    have D8 := Lib.hid (D7.out.cell 3 (.int .i64 v) (D7.out.var.set3 v))
    generalize w7.setCell ⟨J, 3, none⟩ (.int .i64 v) = w8 at D8 ⊢
    clear D7
    have x0 := D8.out.var.c0
    have x1 := D8.out.var.c1
    have x2 := D8.out.var.c2
    have x3 := D8.out.var.c3
    have x4 := D8.out.var.c4
    have q0 := D8.out.res.c0; have f0 := D8.out.res.f 0
    have q1 := D8.out.res.c1; have f1 := D8.out.res.f 1
    have q2 := D8.out.res.c2; have f2 := D8.out.res.f 2
    have q3 := D8.out.res.c3; have f3 := D8.out.res.f 3
    have q4 := D8.out.res.c4; have f4 := D8.out.res.f 4
    go_wp2_with fail
    clear x0 x1 x2 x3 x4 q0 q1 q2 q3 q4 f0 f1 f2 f3 f4
    change bodyPost _ _ _ _ _ (setDesc w8 w.heap.size n 0 z v c)
    obtain ⟨SF, SS, GG⟩ := D8.out.fin
    generalize setDesc w8 w.heap.size n 0 z v c = wz at SF SS GG ⊢
    have e0 := SF.c0; have e1 := SF.c1; have e2 := SF.c2; have e3 := SF.c3; have e4 := SF.c4
    exact bodyPost_ret (v := .agg #[.int .i64 n, .int .i64 0, .int .i64 z, .int .i64 v, .bool c]) (by simp [results, Try.results101, go_sem, e0, e1, e2, e3, e4]) rfl ⟨_, _, _, _, _, rfl, ⟨HOK.out.1, HOK.out.2, HVV.out⟩, SS, GG⟩
  · have c1 := D3.out.var.c1
    go_wp2_with fail
    refine (l06Data_any _ _).mono ?_
    rintro e w5 ⟨rfl, rfl⟩
    rw [show hasData 1 = false from rfl]
    clear c1
    have c1 := D3.out.var.c1
    go_upto_region 6 with fail
    clear c1
    have hcl := fun (W : World) => l08Cells_any 1 0 W rfl rfl
    have hin := cells_in 1 0
    have hok : kindOk 1 = true ∧ sizeOk 1 0 = true := ⟨rfl, rfl⟩
    have HOK := Lib.hid hok; clear hok
    generalize cellsOf8 1 0 = y at hcl hin
    have HC := Lib.hid hcl; clear hcl
    have hw : IntKind.i64.wrap (y + 20) = y + 20 := by rw [IntKind.wrap_i64]; omega
    have c1 := D3.out.var.c1; have c2 := D3.out.var.c2
    go_wp2_with fail
    refine (HC.out _).mono ?_
    rintro e w6 ⟨rfl, rfl⟩
    go_wp2_with fail
    clear c1 c2
    refine (next_any _ _ _ D3.out.src (by omega)).mono ?_
    rintro e w7 ⟨r, rfl, r0, r1, -, hs7, g7⟩
    have D7 := Lib.hid (D3.out.next hs7 g7)
    clear hs7 g7 D3
    replace r1 := r1 (by omega)
    obtain ⟨v, hv⟩ : ∃ v, y + 20 + r = v := ⟨_, rfl⟩
    have hw2 : IntKind.i64.wrap (y + 20 + r) = v := by rw [IntKind.wrap_i64]; omega
    have HVV : Hid (0 ≤ v ∧ v ≤ 1000) := Lib.hid (by omega)
    clear r0 r1 hv hin
    have c3 := D7.out.var.c3; have f3 := D7.out.var.f 3
    go_upto_region 7 with fail
    clear c3 f3 hw hw2
    have D8 := Lib.hid (D7.out.cell 3 (.int .i64 v) (D7.out.var.set3 v))
    generalize w7.setCell ⟨J, 3, none⟩ (.int .i64 v) = w8 at D8 ⊢
    clear D7
    have x0 := D8.out.var.c0
    have x1 := D8.out.var.c1
    have x2 := D8.out.var.c2
    have x3 := D8.out.var.c3
    have x4 := D8.out.var.c4
    have q0 := D8.out.res.c0; have f0 := D8.out.res.f 0
    have q1 := D8.out.res.c1; have f1 := D8.out.res.f 1
    have q2 := D8.out.res.c2; have f2 := D8.out.res.f 2
    have q3 := D8.out.res.c3; have f3 := D8.out.res.f 3
    have q4 := D8.out.res.c4; have f4 := D8.out.res.f 4
    go_wp2_with fail
    clear x0 x1 x2 x3 x4 q0 q1 q2 q3 q4 f0 f1 f2 f3 f4
    change bodyPost _ _ _ _ _ (setDesc w8 w.heap.size n 1 0 v c)
    obtain ⟨SF, SS, GG⟩ := D8.out.fin
    generalize setDesc w8 w.heap.size n 1 0 v c = wz at SF SS GG ⊢
    have e0 := SF.c0; have e1 := SF.c1; have e2 := SF.c2; have e3 := SF.c3; have e4 := SF.c4
    exact bodyPost_ret (v := .agg #[.int .i64 n, .int .i64 1, .int .i64 0, .int .i64 v, .bool c]) (by simp [results, Try.results101, go_sem, e0, e1, e2, e3, e4]) rfl ⟨_, _, _, _, _, rfl, ⟨HOK.out.1, HOK.out.2, HVV.out⟩, SS, GG⟩
  · have c1 := D3.out.var.c1
    go_wp2_with fail
    refine (l06Data_any _ _).mono ?_
    rintro e w5 ⟨rfl, rfl⟩
    rw [show hasData 2 = true from rfl]
    clear c1
    go_wp2_with fail
    refine (next_any _ _ _ D3.out.src (by omega)).mono ?_
    rintro e w5 ⟨x, rfl, x0, x1, -, hs5, g5⟩
    have D5 := Lib.hid (D3.out.next hs5 g5)
    clear hs5 g5 D3
    replace x1 := x1 (by omega)
    obtain ⟨z, hz⟩ : ∃ z, 1 + x = z := ⟨_, rfl⟩
    have hw : IntKind.i64.wrap (1 + x) = z := by rw [IntKind.wrap_i64]; omega
    have hzz : sizeOk 2 z = true := by unfold sizeOk; simp [inRange]; omega
    have HZZ := Lib.hid hzz
    clear x0 x1 hz hzz
    have c2 := D5.out.var.c2; have f2 := D5.out.var.f 2
    go_upto_region 4 with fail
    clear c2 f2 hw
    have D6 := Lib.hid (D5.out.cell 2 (.int .i64 z) (D5.out.var.set2 z))
    generalize w5.setCell ⟨J, 2, none⟩ (.int .i64 z) = w6 at D6 ⊢
    clear D5
    have c1 := D6.out.var.c1
    go_upto_region 6 with fail
    clear c1
    have hcl := fun (W : World) => l08Cells_any 2 z W rfl HZZ.out
    have hin := cells_in 2 z
    have hok : kindOk 2 = true ∧ sizeOk 2 z = true := ⟨rfl, HZZ.out⟩
    have HOK := Lib.hid hok; clear hok
    generalize cellsOf8 2 z = y at hcl hin
    have HC := Lib.hid hcl; clear hcl
    have hw : IntKind.i64.wrap (y + 20) = y + 20 := by rw [IntKind.wrap_i64]; omega
    have c1 := D6.out.var.c1; have c2 := D6.out.var.c2
    go_wp2_with fail
    refine (HC.out _).mono ?_
    rintro e w6 ⟨rfl, rfl⟩
    go_wp2_with fail
    clear c1 c2
    refine (next_any _ _ _ D6.out.src (by omega)).mono ?_
    rintro e w7 ⟨r, rfl, r0, r1, -, hs7, g7⟩
    have D7 := Lib.hid (D6.out.next hs7 g7)
    clear hs7 g7 D6
    replace r1 := r1 (by omega)
    obtain ⟨v, hv⟩ : ∃ v, y + 20 + r = v := ⟨_, rfl⟩
    have hw2 : IntKind.i64.wrap (y + 20 + r) = v := by rw [IntKind.wrap_i64]; omega
    have HVV : Hid (0 ≤ v ∧ v ≤ 1000) := Lib.hid (by omega)
    clear r0 r1 hv hin
    have c3 := D7.out.var.c3; have f3 := D7.out.var.f 3
    go_upto_region 7 with fail
    clear c3 f3 hw hw2
    have D8 := Lib.hid (D7.out.cell 3 (.int .i64 v) (D7.out.var.set3 v))
    generalize w7.setCell ⟨J, 3, none⟩ (.int .i64 v) = w8 at D8 ⊢
    clear D7
    have x0 := D8.out.var.c0
    have x1 := D8.out.var.c1
    have x2 := D8.out.var.c2
    have x3 := D8.out.var.c3
    have x4 := D8.out.var.c4
    have q0 := D8.out.res.c0; have f0 := D8.out.res.f 0
    have q1 := D8.out.res.c1; have f1 := D8.out.res.f 1
    have q2 := D8.out.res.c2; have f2 := D8.out.res.f 2
    have q3 := D8.out.res.c3; have f3 := D8.out.res.f 3
    have q4 := D8.out.res.c4; have f4 := D8.out.res.f 4
    go_wp2_with fail
    clear x0 x1 x2 x3 x4 q0 q1 q2 q3 q4 f0 f1 f2 f3 f4
    change bodyPost _ _ _ _ _ (setDesc w8 w.heap.size n 2 z v c)
    obtain ⟨SF, SS, GG⟩ := D8.out.fin
    generalize setDesc w8 w.heap.size n 2 z v c = wz at SF SS GG ⊢
    have e0 := SF.c0; have e1 := SF.c1; have e2 := SF.c2; have e3 := SF.c3; have e4 := SF.c4
    exact bodyPost_ret (v := .agg #[.int .i64 n, .int .i64 2, .int .i64 z, .int .i64 v, .bool c]) (by simp [results, Try.results101, go_sem, e0, e1, e2, e3, e4]) rfl ⟨_, _, _, _, _, rfl, ⟨HOK.out.1, HOK.out.2, HVV.out⟩, SS, GG⟩
  · have c1 := D3.out.var.c1
    go_wp2_with fail
    refine (l06Data_any _ _).mono ?_
    rintro e w5 ⟨rfl, rfl⟩
    rw [show hasData 3 = false from rfl]
    clear c1
    have c1 := D3.out.var.c1; have c4 := D3.out.var.c4; have f4 := D3.out.var.f 4
    go_upto_region 6 with fail
    clear c1 c4 f4
    have D6 := Lib.hid (D3.out.cell 4 (.bool false) (D3.out.var.set4 false))
    generalize w4.setCell ⟨J, 4, none⟩ (.bool false) = w6 at D6 ⊢
    clear D3
    have hcl := fun (W : World) => l08Cells_any 3 0 W rfl rfl
    have hin := cells_in 3 0
    have hok : kindOk 3 = true ∧ sizeOk 3 0 = true := ⟨rfl, rfl⟩
    have HOK := Lib.hid hok; clear hok
    generalize cellsOf8 3 0 = y at hcl hin
    have HC := Lib.hid hcl; clear hcl
    have hw : IntKind.i64.wrap (y + 20) = y + 20 := by rw [IntKind.wrap_i64]; omega
    have c1 := D6.out.var.c1; have c2 := D6.out.var.c2
    go_wp2_with fail
    refine (HC.out _).mono ?_
    rintro e w6 ⟨rfl, rfl⟩
    go_wp2_with fail
    clear c1 c2
    refine (next_any _ _ _ D6.out.src (by omega)).mono ?_
    rintro e w7 ⟨r, rfl, r0, r1, -, hs7, g7⟩
    have D7 := Lib.hid (D6.out.next hs7 g7)
    clear hs7 g7 D6
    replace r1 := r1 (by omega)
    obtain ⟨v, hv⟩ : ∃ v, y + 20 + r = v := ⟨_, rfl⟩
    have hw2 : IntKind.i64.wrap (y + 20 + r) = v := by rw [IntKind.wrap_i64]; omega
    have HVV : Hid (0 ≤ v ∧ v ≤ 1000) := Lib.hid (by omega)
    clear r0 r1 hv hin
    have c3 := D7.out.var.c3; have f3 := D7.out.var.f 3
    go_upto_region 7 with fail
    clear c3 f3 hw hw2
    have D8 := Lib.hid (D7.out.cell 3 (.int .i64 v) (D7.out.var.set3 v))
    generalize w7.setCell ⟨J, 3, none⟩ (.int .i64 v) = w8 at D8 ⊢
    clear D7
    have x0 := D8.out.var.c0
    have x1 := D8.out.var.c1
    have x2 := D8.out.var.c2
    have x3 := D8.out.var.c3
    have x4 := D8.out.var.c4
    have q0 := D8.out.res.c0; have f0 := D8.out.res.f 0
    have q1 := D8.out.res.c1; have f1 := D8.out.res.f 1
    have q2 := D8.out.res.c2; have f2 := D8.out.res.f 2
    have q3 := D8.out.res.c3; have f3 := D8.out.res.f 3
    have q4 := D8.out.res.c4; have f4 := D8.out.res.f 4
    go_wp2_with fail
    clear x0 x1 x2 x3 x4 q0 q1 q2 q3 q4 f0 f1 f2 f3 f4
    change bodyPost _ _ _ _ _ (setDesc w8 w.heap.size n 3 0 v false)
    obtain ⟨SF, SS, GG⟩ := D8.out.fin
    generalize setDesc w8 w.heap.size n 3 0 v false = wz at SF SS GG ⊢
    have e0 := SF.c0; have e1 := SF.c1; have e2 := SF.c2; have e3 := SF.c3; have e4 := SF.c4
    exact bodyPost_ret (v := .agg #[.int .i64 n, .int .i64 3, .int .i64 0, .int .i64 v, .bool false]) (by simp [results, Try.results101, go_sem, e0, e1, e2, e3, e4]) rfl ⟨_, _, _, _, _, rfl, ⟨HOK.out.1, HOK.out.2, HVV.out⟩, SS, GG⟩

set_option maxHeartbeats 8000000 in
set_option maxRecDepth 100000 in
theorem l08DrawAny_any (p : Nat) (w : World) (hs : Src 133 w p) : Calls Try.prog 97 #[.pointer (some ⟨p, 0, none⟩)] w (DrawnAny8 w p) := by
  have hp := hs.lt
  have HA := Lib.hid (Below.alloc (Below.refl w.heap.size w) (Nat.le_refl _) (.cells #[.int .i64 0, .int .i64 0, .int .i64 0, .int .i64 0, .bool false] 49))
  have S0 := Lib.hid (hs.below HA.out)
  have R0 := Lib.hid (DescAt.new (T := 49) (n := 0) (a := 0) (z := 0) (u := 0) (c := false) w)
  have G0 := Lib.hid (grown_of_below (g := some p) HA.out)
  clear hs HA
  go_enter Try.func97, Try.ntmps97
  go_upto_region 1 with fail
  generalize w.alloc (.cells #[.int .i64 0, .int .i64 0, .int .i64 0, .int .i64 0, .bool false] 49) = w0 at S0 R0 G0 ⊢
  go_wp2_with fail
  refine (l08Draw_any _ _ S0.out).mono ?_
  rintro e w1 ⟨n, a, z, u, c, rfl, hok, hs1, g1⟩
  have S1 := Lib.hid hs1; have R1 := Lib.hid (R0.out.grown g1 (by simp; omega)); have G1 := Lib.hid (grown_trans G0.out g1); have HOK := Lib.hid hok
  clear hs1 g1 S0 R0 G0 hok
  have D1 := Lib.hid (DrawDs.start (n := n) (a := a) (z := z) (u := u) (c := c) R1.out S1.out G1.out hp)
  clear S1 R1 G1
  go_upto_region 2 with fail
  obtain ⟨J, hJ⟩ : ∃ b, b = w1.heap.size := ⟨_, rfl⟩
  rw [← hJ] at D1 ⊢
  clear hJ
  generalize w1.alloc (.cells #[.int .i64 n, .int .i64 a, .int .i64 z, .int .i64 u, .bool c] 49) = w2 at D1 ⊢
  go_wp2_with fail
  refine (next_any _ _ _ D1.out.src (by omega)).mono ?_
  rintro e w3 ⟨y, rfl, -, -, -, hs3, g3⟩
  have D3 := Lib.hid (D1.out.next hs3 g3)
  clear hs3 g3 D1
  by_cases h0 : y = 0
  · subst h0
    have DT := Lib.hid (D3.out.call (Below.alloc (Below.refl w3.heap.size w3) (Nat.le_refl _) (.cells #[.int .i64 (-1), .int .i64 31, .int .i64 32] 2)))
    have hpl := D3.out.src.lt
    go_wp2_with fail
    refine (next_any _ _ _ DT.out.src (by omega)).mono ?_
    rintro e w4 ⟨x, rfl, x0, x1, -, hs4, g4⟩
    replace x1 := x1 (by omega)
    obtain ⟨x, rfl⟩ := Int.eq_ofNat_of_zero_le x0
    have hx : x < 3 := by omega
    obtain ⟨v, hv⟩ : ∃ v : Int, (#[.int .i64 (-1), .int .i64 31, .int .i64 32] : Array Value)[x]? = some (.int .i64 v) := by
      match x, hx with
      | 0, _ => exact ⟨_, rfl⟩
      | 1, _ => exact ⟨_, rfl⟩
      | 2, _ => exact ⟨_, rfl⟩
    have hct := (table_cell g4 hpl x).trans hv
    have D4 := Lib.hid (DT.out.next hs4 g4)
    clear hs4 g4 DT D3 x0 hv hx hpl
    have cc := D4.out.var.c0; have ff := D4.out.var.f 0
    go_upto_region 13 with fail
    clear cc ff hct x1
    have D5 := Lib.hid (D4.out.cell 0 (.int .i64 v) (D4.out.var.set0 v))
    generalize w4.setCell ⟨J, 0, none⟩ (.int .i64 v) = w5 at D5 ⊢
    clear D4
    have x0 := D5.out.var.c0
    have x1 := D5.out.var.c1
    have x2 := D5.out.var.c2
    have x3 := D5.out.var.c3
    have x4 := D5.out.var.c4
    have q0 := D5.out.res.c0; have f0 := D5.out.res.f 0
    have q1 := D5.out.res.c1; have f1 := D5.out.res.f 1
    have q2 := D5.out.res.c2; have f2 := D5.out.res.f 2
    have q3 := D5.out.res.c3; have f3 := D5.out.res.f 3
    have q4 := D5.out.res.c4; have f4 := D5.out.res.f 4
    go_wp2_with fail
    clear x0 x1 x2 x3 x4 q0 q1 q2 q3 q4 f0 f1 f2 f3 f4
    change bodyPost _ _ _ _ _ (setDesc w5 w.heap.size v a z u c)
    obtain ⟨SF, SS, GG⟩ := D5.out.fin
    generalize setDesc w5 w.heap.size v a z u c = wz at SF SS GG ⊢
    have e0 := SF.c0; have e1 := SF.c1; have e2 := SF.c2; have e3 := SF.c3; have e4 := SF.c4
    exact bodyPost_ret (v := .agg #[.int .i64 v, .int .i64 a, .int .i64 z, .int .i64 u, .bool c]) (by simp [results, Try.results97, go_sem, e0, e1, e2, e3, e4]) rfl ⟨_, _, _, _, _, rfl, SS, GG⟩
  have t0 : (y == 0) = false := by simp [h0]
  by_cases h1 : y = 1
  · subst h1
    clear t0 h0
    go_wp2_with fail
    refine (next_any _ _ _ D3.out.src (by omega)).mono ?_
    rintro e w4 ⟨x, rfl, x0, x1, -, hs4, g4⟩
    replace x1 := x1 (by omega)
    have D4 := Lib.hid (D3.out.next hs4 g4)
    clear hs4 g4 D3
    obtain ⟨v, hv⟩ : ∃ v, x - 1 = v := ⟨_, rfl⟩
    have hw : IntKind.i64.wrap (x - 1) = v := by rw [IntKind.wrap_i64]; omega
    clear x0 x1 hv
    have cc := D4.out.var.c1; have ff := D4.out.var.f 1
    go_upto_region 13 with fail
    clear cc ff hw
    have D5 := Lib.hid (D4.out.cell 1 (.int .i64 v) (D4.out.var.set1 v))
    generalize w4.setCell ⟨J, 1, none⟩ (.int .i64 v) = w5 at D5 ⊢
    clear D4
    have x0 := D5.out.var.c0
    have x1 := D5.out.var.c1
    have x2 := D5.out.var.c2
    have x3 := D5.out.var.c3
    have x4 := D5.out.var.c4
    have q0 := D5.out.res.c0; have f0 := D5.out.res.f 0
    have q1 := D5.out.res.c1; have f1 := D5.out.res.f 1
    have q2 := D5.out.res.c2; have f2 := D5.out.res.f 2
    have q3 := D5.out.res.c3; have f3 := D5.out.res.f 3
    have q4 := D5.out.res.c4; have f4 := D5.out.res.f 4
    go_wp2_with fail
    clear x0 x1 x2 x3 x4 q0 q1 q2 q3 q4 f0 f1 f2 f3 f4
    change bodyPost _ _ _ _ _ (setDesc w5 w.heap.size n v z u c)
    obtain ⟨SF, SS, GG⟩ := D5.out.fin
    generalize setDesc w5 w.heap.size n v z u c = wz at SF SS GG ⊢
    have e0 := SF.c0; have e1 := SF.c1; have e2 := SF.c2; have e3 := SF.c3; have e4 := SF.c4
    exact bodyPost_ret (v := .agg #[.int .i64 n, .int .i64 v, .int .i64 z, .int .i64 u, .bool c]) (by simp [results, Try.results97, go_sem, e0, e1, e2, e3, e4]) rfl ⟨_, _, _, _, _, rfl, SS, GG⟩
  have t1 : (y == 1) = false := by simp [h1]
  by_cases h2 : y = 2
  · subst h2
    clear t0 h0
    clear t1 h1
    have DT := Lib.hid (D3.out.call (Below.alloc (Below.refl w3.heap.size w3) (Nat.le_refl _) (.cells #[.int .i64 (-1), .int .i64 0, .int .i64 32, .int .i64 33] 2)))
    have hpl := D3.out.src.lt
    go_wp2_with fail
    refine (next_any _ _ _ DT.out.src (by omega)).mono ?_
    rintro e w4 ⟨x, rfl, x0, x1, -, hs4, g4⟩
    replace x1 := x1 (by omega)
    obtain ⟨x, rfl⟩ := Int.eq_ofNat_of_zero_le x0
    have hx : x < 4 := by omega
    obtain ⟨v, hv⟩ : ∃ v : Int, (#[.int .i64 (-1), .int .i64 0, .int .i64 32, .int .i64 33] : Array Value)[x]? = some (.int .i64 v) := by
      match x, hx with
      | 0, _ => exact ⟨_, rfl⟩
      | 1, _ => exact ⟨_, rfl⟩
      | 2, _ => exact ⟨_, rfl⟩
      | 3, _ => exact ⟨_, rfl⟩
    have hct := (table_cell g4 hpl x).trans hv
    have D4 := Lib.hid (DT.out.next hs4 g4)
    clear hs4 g4 DT D3 x0 hv hx hpl
    have cc := D4.out.var.c2; have ff := D4.out.var.f 2
    go_upto_region 13 with fail
    clear cc ff hct x1
    have D5 := Lib.hid (D4.out.cell 2 (.int .i64 v) (D4.out.var.set2 v))
    generalize w4.setCell ⟨J, 2, none⟩ (.int .i64 v) = w5 at D5 ⊢
    clear D4
    have x0 := D5.out.var.c0
    have x1 := D5.out.var.c1
    have x2 := D5.out.var.c2
    have x3 := D5.out.var.c3
    have x4 := D5.out.var.c4
    have q0 := D5.out.res.c0; have f0 := D5.out.res.f 0
    have q1 := D5.out.res.c1; have f1 := D5.out.res.f 1
    have q2 := D5.out.res.c2; have f2 := D5.out.res.f 2
    have q3 := D5.out.res.c3; have f3 := D5.out.res.f 3
    have q4 := D5.out.res.c4; have f4 := D5.out.res.f 4
    go_wp2_with fail
    clear x0 x1 x2 x3 x4 q0 q1 q2 q3 q4 f0 f1 f2 f3 f4
    change bodyPost _ _ _ _ _ (setDesc w5 w.heap.size n a v u c)
    obtain ⟨SF, SS, GG⟩ := D5.out.fin
    generalize setDesc w5 w.heap.size n a v u c = wz at SF SS GG ⊢
    have e0 := SF.c0; have e1 := SF.c1; have e2 := SF.c2; have e3 := SF.c3; have e4 := SF.c4
    exact bodyPost_ret (v := .agg #[.int .i64 n, .int .i64 a, .int .i64 v, .int .i64 u, .bool c]) (by simp [results, Try.results97, go_sem, e0, e1, e2, e3, e4]) rfl ⟨_, _, _, _, _, rfl, SS, GG⟩
  have t2 : (y == 2) = false := by simp [h2]
  by_cases h3 : y = 3
  · subst h3
    clear t0 h0
    clear t1 h1
    clear t2 h2
    have hcl := fun (W : World) => l08Cells_any a z W HOK.out.1 HOK.out.2.1
    have hin := cells_in a z
    generalize cellsOf8 a z = y' at hcl hin
    have HC := Lib.hid hcl; clear hcl
    obtain ⟨g, hg⟩ : ∃ g, y' + 20 - 1 = g := ⟨_, rfl⟩
    have hw : IntKind.i64.wrap (y' + 20) = y' + 20 := by rw [IntKind.wrap_i64]; omega
    have hw2 : IntKind.i64.wrap (y' + 20 - 1) = g := by rw [IntKind.wrap_i64]; omega
    clear hin hg
    have c1 := D3.out.var.c1; have c2 := D3.out.var.c2
    go_wp2_with fail
    refine (HC.out _).mono ?_
    rintro e w6 ⟨rfl, rfl⟩
    have DT := Lib.hid (D3.out.call (Below.alloc (Below.refl w3.heap.size w3) (Nat.le_refl _) (.cells #[.int .i64 0, .int .i64 g, .int .i64 1000, .int .i64 1001] 2)))
    have hpl := D3.out.src.lt
    go_wp2_with fail
    refine (next_any _ _ _ DT.out.src (by omega)).mono ?_
    rintro e w4 ⟨x, rfl, x0, x1, -, hs4, g4⟩
    replace x1 := x1 (by omega)
    obtain ⟨x, rfl⟩ := Int.eq_ofNat_of_zero_le x0
    have hx : x < 4 := by omega
    obtain ⟨v, hv⟩ : ∃ v : Int, (#[.int .i64 0, .int .i64 g, .int .i64 1000, .int .i64 1001] : Array Value)[x]? = some (.int .i64 v) := by
      match x, hx with
      | 0, _ => exact ⟨_, rfl⟩
      | 1, _ => exact ⟨_, rfl⟩
      | 2, _ => exact ⟨_, rfl⟩
      | 3, _ => exact ⟨_, rfl⟩
    have hct := (table_cell g4 hpl x).trans hv
    have D4 := Lib.hid (DT.out.next hs4 g4)
    clear hs4 g4 DT D3 x0 hv hx hpl
    have cc := D4.out.var.c3; have ff := D4.out.var.f 3
    go_upto_region 13 with fail
    clear cc ff hct x1
    have D5 := Lib.hid (D4.out.cell 3 (.int .i64 v) (D4.out.var.set3 v))
    generalize w4.setCell ⟨J, 3, none⟩ (.int .i64 v) = w5 at D5 ⊢
    clear D4
    have x0 := D5.out.var.c0
    have x1 := D5.out.var.c1
    have x2 := D5.out.var.c2
    have x3 := D5.out.var.c3
    have x4 := D5.out.var.c4
    have q0 := D5.out.res.c0; have f0 := D5.out.res.f 0
    have q1 := D5.out.res.c1; have f1 := D5.out.res.f 1
    have q2 := D5.out.res.c2; have f2 := D5.out.res.f 2
    have q3 := D5.out.res.c3; have f3 := D5.out.res.f 3
    have q4 := D5.out.res.c4; have f4 := D5.out.res.f 4
    go_wp2_with fail
    clear x0 x1 x2 x3 x4 q0 q1 q2 q3 q4 f0 f1 f2 f3 f4
    change bodyPost _ _ _ _ _ (setDesc w5 w.heap.size n a z v c)
    obtain ⟨SF, SS, GG⟩ := D5.out.fin
    generalize setDesc w5 w.heap.size n a z v c = wz at SF SS GG ⊢
    have e0 := SF.c0; have e1 := SF.c1; have e2 := SF.c2; have e3 := SF.c3; have e4 := SF.c4
    exact bodyPost_ret (v := .agg #[.int .i64 n, .int .i64 a, .int .i64 z, .int .i64 v, .bool c]) (by simp [results, Try.results97, go_sem, e0, e1, e2, e3, e4]) rfl ⟨_, _, _, _, _, rfl, SS, GG⟩
  have t3 : (y == 3) = false := by simp [h3]
  by_cases h4 : y = 4
  · subst h4
    clear t0 h0
    clear t1 h1
    clear t2 h2
    clear t3 h3
    have cc := D3.out.var.c4; have ff := D3.out.var.f 4
    go_upto_region 13 with fail
    clear cc ff
    have D5 := Lib.hid (D3.out.cell 4 (.bool (!c)) (D3.out.var.set4 (!c)))
    generalize w3.setCell ⟨J, 4, none⟩ (.bool (!c)) = w5 at D5 ⊢
    clear D3
    have x0 := D5.out.var.c0
    have x1 := D5.out.var.c1
    have x2 := D5.out.var.c2
    have x3 := D5.out.var.c3
    have x4 := D5.out.var.c4
    have q0 := D5.out.res.c0; have f0 := D5.out.res.f 0
    have q1 := D5.out.res.c1; have f1 := D5.out.res.f 1
    have q2 := D5.out.res.c2; have f2 := D5.out.res.f 2
    have q3 := D5.out.res.c3; have f3 := D5.out.res.f 3
    have q4 := D5.out.res.c4; have f4 := D5.out.res.f 4
    go_wp2_with fail
    clear x0 x1 x2 x3 x4 q0 q1 q2 q3 q4 f0 f1 f2 f3 f4
    change bodyPost _ _ _ _ _ (setDesc w5 w.heap.size n a z u (!c))
    obtain ⟨SF, SS, GG⟩ := D5.out.fin
    generalize setDesc w5 w.heap.size n a z u (!c) = wz at SF SS GG ⊢
    have e0 := SF.c0; have e1 := SF.c1; have e2 := SF.c2; have e3 := SF.c3; have e4 := SF.c4
    exact bodyPost_ret (v := .agg #[.int .i64 n, .int .i64 a, .int .i64 z, .int .i64 u, .bool (!c)]) (by simp [results, Try.results97, go_sem, e0, e1, e2, e3, e4]) rfl ⟨_, _, _, _, _, rfl, SS, GG⟩
  have t4 : (y == 4) = false := by simp [h4]
  go_upto_region 13 with fail
  clear t0 t1 t2 t3 t4 h0 h1 h2 h3 h4
  have x0 := D3.out.var.c0
  have x1 := D3.out.var.c1
  have x2 := D3.out.var.c2
  have x3 := D3.out.var.c3
  have x4 := D3.out.var.c4
  have q0 := D3.out.res.c0; have f0 := D3.out.res.f 0
  have q1 := D3.out.res.c1; have f1 := D3.out.res.f 1
  have q2 := D3.out.res.c2; have f2 := D3.out.res.f 2
  have q3 := D3.out.res.c3; have f3 := D3.out.res.f 3
  have q4 := D3.out.res.c4; have f4 := D3.out.res.f 4
  go_wp2_with fail
  clear x0 x1 x2 x3 x4 q0 q1 q2 q3 q4 f0 f1 f2 f3 f4
  change bodyPost _ _ _ _ _ (setDesc w3 w.heap.size n a z u c)
  obtain ⟨SF, SS, GG⟩ := D3.out.fin
  generalize setDesc w3 w.heap.size n a z u c = wz at SF SS GG ⊢
  have e0 := SF.c0; have e1 := SF.c1; have e2 := SF.c2; have e3 := SF.c3; have e4 := SF.c4
  exact bodyPost_ret (v := .agg #[.int .i64 n, .int .i64 a, .int .i64 z, .int .i64 u, .bool c]) (by simp [results, Try.results97, go_sem, e0, e1, e2, e3, e4]) rfl ⟨_, _, _, _, _, rfl, SS, GG⟩
end Go.Proofs.Ytbdfnkhmnglpbaa
