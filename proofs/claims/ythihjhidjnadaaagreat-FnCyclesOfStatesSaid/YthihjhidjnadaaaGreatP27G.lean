/-
  Contracts of the program's, the model's and the laws' functions, and plain mathematics, on which a proof of this claim stands (part G).
-/

import Derived.Test.YthihjhidjnadaaaGreatP27D
import Derived.Test.YthihjhidjnadaaaGreatP27E
import Derived.Test.YthihjhidjnadaaaGreatP27M
import Derived.Test.YthihjhidjnadaaaGreatP27A
import Derived.Test.YthihjhidjnadaaaGreatP27Z
import Derived.Test.YthihjhidjnadaaaGreatP27I
import Derived.Test.YthihjhidjnadaaaGreatP27N
import Derived.Test.YthihjhidjnadaaaGreatP27S
import Derived.Test.YthihjhidjnadaaaGreatP27T
namespace Go.Proofs.YthihjhidjnadaaaGreat
section
open Go.RowKit
theorem grown_cell (w : World) (X i : Nat) (z : Value) : w.grownBy (w.setCell ⟨X, i, none⟩ z) (some X) :=
  ⟨rfl, rfl, rfl, by simp [World.setCell], fun k _ hne => Below.heap_setCell _ _ _ _ (fun e => hne (by rw [e]))⟩
theorem grown_two {w w' w'' : World} {p : Nat} (h : w.grownBy w' (some p)) (k : w'.grownBy w'' (some p)) : w.grownBy w'' (some p) :=
  ⟨k.os.trans h.os, k.tape.trans h.tape, k.output.trans h.output, Nat.le_trans h.size k.size, fun i hi hne => (k.block i (Nat.lt_of_lt_of_le hi h.size) hne).trans (h.block i hi hne)⟩
theorem grown_setF (w : World) (X : Nat) (t m r s k : Int) : w.grownBy (setFive w X t m r s k) (some X) :=
  grown_two (grown_two (grown_two (grown_two (grown_cell w X 0 _) (grown_cell _ X 1 _)) (grown_cell _ X 2 _)) (grown_cell _ X 3 _)) (grown_cell _ X 4 _)
theorem below_cellX (w : World) (X i : Nat) (z : Value) : Below X w (w.setCell ⟨X, i, none⟩ z) := (Below.refl X w).setCell (p := ⟨X, i, none⟩) (Nat.le_refl X) _
structure D14 (w W0 W : World) (p B : Nat) (v : Mv) : Prop where
  s : Src 172 W p
  lo : p < w.heap.size
  ret1 : MvAt 28 W w.heap.size Mv.zero
  ret2 : StateAt 30 W (w.heap.size + 1) 0 0 0 0 0
  box : MvAt 28 W B v
  bl : w.heap.size + 2 ≤ B
  z0 : W0.heap.size ≤ B + 1
  z1 : w.heap.size ≤ W0.heap.size
  t : LowMe W0 (w.heap.size + 2) v
  a : AnyMv v
  g0 : W0.grownBy W (some p)
  g : w.grownBy W (some p)
structure D15 (w W0 W : World) (p B X : Nat) (v : Mv) (t m r s k : Int) : Prop where
  d : D14 w W0 W p B v
  st : StateAt 30 W X t m r s k
  xb : B < X
section
variable {w W0 W W' : World} {p B X : Nat} {v : Mv} {t m r s k : Int}
theorem D14.next (h : D14 w W0 W p B v) (hs : Src 172 W' p) (hg : W.grownBy W' (some p)) : D14 w W0 W' p B v := by
  have := h.lo
  have := h.bl
  exact ⟨hs, h.lo, h.ret1.grown hg (by simp; omega), StateAt.grown h.ret2 hg (by simp; omega), h.box.grown hg (by simp; omega), h.bl, h.z0, h.z1, h.t, h.a, grown_two h.g0 hg, grown_two h.g hg⟩
theorem D14.far (h : D14 w W0 W p B v) (hb : Below X W W') (hx : B < X) (hs : Src 172 W' p) : D14 w W0 W' p B v := by
  have := h.bl
  have := h.z0
  have := h.z1
  exact ⟨hs, h.lo, h.ret1.below hb (by omega), StateAt.below h.ret2 hb (by omega), h.box.below hb hx, h.bl, h.z0, h.z1, h.t, h.a, grown_step h.g0 hb (by omega), grown_step h.g hb (by omega)⟩
theorem D14.call (h : D14 w W0 W p B v) (hb : Below W.heap.size W W') : D14 w W0 W' p B v := h.far hb h.box.lt (h.s.below hb)
theorem D14.low (h : D14 w W0 W p B v) : LowMe W (w.heap.size + 2) v := by
  have := h.lo
  exact h.t.far h.g0 (by omega)
theorem D15.next (h : D15 w W0 W p B X v t m r s k) (hs : Src 172 W' p) (hg : W.grownBy W' (some p)) : D15 w W0 W' p B X v t m r s k := by
  have := h.d.lo
  have := h.d.bl
  have := h.xb
  exact ⟨h.d.next hs hg, StateAt.grown h.st hg (by simp; omega), h.xb⟩
theorem D15.call (h : D15 w W0 W p B X v t m r s k) (hb : Below W.heap.size W W') : D15 w W0 W' p B X v t m r s k := ⟨h.d.call hb, StateAt.below h.st hb (StateAt.lt h.st), h.xb⟩
theorem D15.put (h : D15 w W0 W p B X v t m r s k) (i : Nat) (z : Value) : D14 w W0 (W.setCell ⟨X, i, none⟩ z) p B v := by
  have := h.d.lo
  have := h.d.bl
  have := h.xb
  exact h.d.far (below_cellX W X i z) h.xb (h.d.s.grown (grown_cell W X i z) (fun k e => by cases e; omega))
theorem D15.set0 (h : D15 w W0 W p B X v t m r s k) (z : Int) : D15 w W0 (W.setCell ⟨X, 0, none⟩ (.int .i64 z)) p B X v z m r s k := ⟨h.put 0 _, StateAt.set0 h.st z, h.xb⟩
theorem D15.set1 (h : D15 w W0 W p B X v t m r s k) (z : Int) : D15 w W0 (W.setCell ⟨X, 1, none⟩ (.int .i64 z)) p B X v t z r s k := ⟨h.put 1 _, StateAt.set1 h.st z, h.xb⟩
theorem D15.set2 (h : D15 w W0 W p B X v t m r s k) (z : Int) : D15 w W0 (W.setCell ⟨X, 2, none⟩ (.int .i64 z)) p B X v t m z s k := ⟨h.put 2 _, StateAt.set2 h.st z, h.xb⟩
theorem D15.set3 (h : D15 w W0 W p B X v t m r s k) (z : Int) : D15 w W0 (W.setCell ⟨X, 3, none⟩ (.int .i64 z)) p B X v t m r z k := ⟨h.put 3 _, StateAt.set3 h.st z, h.xb⟩
theorem D15.set4 (h : D15 w W0 W p B X v t m r s k) (z : Int) : D15 w W0 (W.setCell ⟨X, 4, none⟩ (.int .i64 z)) p B X v t m r s z := ⟨h.put 4 _, StateAt.set4 h.st z, h.xb⟩
theorem D15.fin (h : D15 w W0 W p B X v t m r s k) : MvAt 28 (setFive (setMv W w.heap.size v) (w.heap.size + 1) t m r s k) w.heap.size v ∧ StateAt 30 (setFive (setMv W w.heap.size v) (w.heap.size + 1) t m r s k) (w.heap.size + 1) t m r s k ∧ LowMe (setFive (setMv W w.heap.size v) (w.heap.size + 1) t m r s k) w.heap.size v ∧ AnyMv v ∧ Src 172 (setFive (setMv W w.heap.size v) (w.heap.size + 1) t m r s k) p ∧ w.grownBy (setFive (setMv W w.heap.size v) (w.heap.size + 1) t m r s k) (some p) := by
  have hlo := h.d.lo
  have g1 := grown_setMv W w.heap.size v
  have g2 := grown_setF (setMv W w.heap.size v) (w.heap.size + 1) t m r s k
  refine ⟨(h.d.ret1.put v).grown g2 (by simp), (StateAt.grown h.d.ret2 g1 (by simp)).five _ _ _ _ _, ((h.d.low.far g1 (by omega)).far g2 (by omega)).more (by omega), h.d.a, (h.d.s.grown g1 (fun k e => by cases e; omega)).grown g2 (fun k e => by cases e; omega), ?_⟩
  exact grown_step (grown_step h.d.g (below_setMv (Nat.le_refl _) v) (Nat.le_refl _)) (below_five (Nat.le_succ _) t m r s k) (Nat.le_refl _)
theorem D15.rd (h : D15 w W0 W p B X v t m r s k) : RdMe W v := h.d.low.rd h.d.a
end
def DrawnVX (w : World) (p : Nat) (e : Ending) (w' : World) : Prop :=
  ∃ (v : Mv) (t m r s k : Int), e = .returned (.tuple #[mvVal v, .agg #[.int .i64 t, .int .i64 m, .int .i64 r, .int .i64 s, .int .i64 k]]) ∧ LowMe w' w.heap.size v ∧ AnyMv v ∧ Src 172 w' p ∧ w.grownBy w' (some p)
set_option linter.unusedSimpArgs false in
set_option maxRecDepth 100000 in
set_option maxHeartbeats 4000000 in
theorem l15Draw_any (p : Nat) (w : World) (hs : Src 172 w p) : Calls Tryz.prog 68 #[.pointer (some ⟨p, 0, none⟩)] w (DrawnVX w p) := by
  have hlt := hs.lt
  have b1 : Below w.heap.size w (w.alloc (.cells #[.int .i64 0, .slice none 0 0, .slice none 0 0, .slice none 0 0] 28)) := (Below.refl _ _).alloc (Nat.le_refl _) _
  have b2 : Below w.heap.size w ((w.alloc (.cells #[.int .i64 0, .slice none 0 0, .slice none 0 0, .slice none 0 0] 28)).alloc (.cells #[.int .i64 0, .int .i64 0, .int .i64 0, .int .i64 0, .int .i64 0] 30)) := b1.alloc (by rw [World.size_alloc]; omega) _
  have hz : ((w.alloc (.cells #[.int .i64 0, .slice none 0 0, .slice none 0 0, .slice none 0 0] 28)).alloc (.cells #[.int .i64 0, .int .i64 0, .int .i64 0, .int .i64 0, .int .i64 0] 30)).heap.size = w.heap.size + 2 := by rw [World.size_alloc, World.size_alloc]
  have HR1 := Lib.hid (show MvAt 28 ((w.alloc (.cells #[.int .i64 0, .slice none 0 0, .slice none 0 0, .slice none 0 0] 28)).alloc (.cells #[.int .i64 0, .int .i64 0, .int .i64 0, .int .i64 0, .int .i64 0] 30)) w.heap.size Mv.zero from (MvAt.new (v := Mv.zero) w).below ((Below.refl _ _).alloc (Nat.le_refl _) _) (by rw [World.size_alloc]; omega))
  have HR2 := Lib.hid (show StateAt 30 ((w.alloc (.cells #[.int .i64 0, .slice none 0 0, .slice none 0 0, .slice none 0 0] 28)).alloc (.cells #[.int .i64 0, .int .i64 0, .int .i64 0, .int .i64 0, .int .i64 0] 30)) (w.heap.size + 1) 0 0 0 0 0 from by have h := StateAt.new (T := 30) (t := 0) (m := 0) (r := 0) (s := 0) (k := 0) (w.alloc (.cells #[.int .i64 0, .slice none 0 0, .slice none 0 0, .slice none 0 0] 28)); rwa [World.size_alloc] at h)
  have HS := Lib.hid (hs.below b2); have HB := Lib.hid b2; have HZ := Lib.hid hz; have HLT := Lib.hid hlt
  clear hs b1 b2 hz hlt
  go_enter Tryz.func68, Tryz.ntmps68
  go_upto_region 1 with fail
  generalize ((w.alloc (.cells #[.int .i64 0, .slice none 0 0, .slice none 0 0, .slice none 0 0] 28)).alloc (.cells #[.int .i64 0, .int .i64 0, .int .i64 0, .int .i64 0, .int .i64 0] 30)) = w0 at HR1 HR2 HS HB HZ ⊢
  go_wp2_with fail
  refine (l13DrawAny_any p _ HS.out).mono ?_
  rintro e w1 ⟨v, rfl, lo1, an1, hs1, g1⟩
  rw [HZ.out] at lo1
  have hb := (Below.refl w1.heap.size w1).alloc (Nat.le_refl _) (.cells #[.int .i64 v.id, .slice v.no v.n.length v.nc, .slice v.mo v.cs.length v.mc, .slice v.eo v.e.length v.ec] 28)
  have HD := Lib.hid (show D14 w w1 (w1.alloc (.cells #[.int .i64 v.id, .slice v.no v.n.length v.nc, .slice v.mo v.cs.length v.mc, .slice v.eo v.e.length v.ec] 28)) p w1.heap.size v from by
    have h1 := HZ.out
    have h2 := HLT.out
    have h3 := g1.size
    have r1 := HR1.out.grown g1 (by simp; omega)
    have r2 := StateAt.grown HR2.out g1 (by simp; omega)
    exact ⟨hs1.below hb, h2, r1.below hb r1.lt, StateAt.below r2 hb (StateAt.lt r2), MvAt.new w1, by omega, by omega, by omega, lo1, an1, grown_of_below hb, grown_step (grown_two (grown_of_below HB.out) g1) hb (by omega)⟩)
  clear lo1 an1 hs1 g1 hb HR1 HR2 HS HB HZ HLT
  unfold mvVal
  go_upto_region 2 with fail
  generalize w1.alloc (.cells #[.int .i64 v.id, .slice v.no v.n.length v.nc, .slice v.mo v.cs.length v.mc, .slice v.eo v.e.length v.ec] 28) = w2 at HD ⊢
  generalize w1.heap.size = B at HD ⊢
  go_wp2_with fail
  refine (l04DrawAny_any p _ HD.out.s).mono ?_
  rintro e w3 ⟨t, m, r, s, k, rfl, hs3, g3⟩
  have HX := Lib.hid (show D15 w w1 (w3.alloc (.cells #[.int .i64 t, .int .i64 m, .int .i64 r, .int .i64 s, .int .i64 k] 30)) p B w3.heap.size v t m r s k from by
    have h := HD.out.next hs3 g3
    exact ⟨h.call ((Below.refl w3.heap.size w3).alloc (Nat.le_refl _) (.cells #[.int .i64 t, .int .i64 m, .int .i64 r, .int .i64 s, .int .i64 k] 30)), StateAt.new w3, h.box.lt⟩)
  clear hs3 g3 HD
  go_upto_region 3 with fail
  generalize w3.alloc (.cells #[.int .i64 t, .int .i64 m, .int .i64 r, .int .i64 s, .int .i64 k] 30) = w4 at HX ⊢
  generalize w3.heap.size = X at HX ⊢
  have HC := Lib.hid (sIsMedl_any v w4 HX.out.rd)
  unfold mvVal at HC
  obtain ⟨z0, z1, z2, z3⟩ := HX.out.d.box.all
  rcases hm : isMedl v.me with _ | _
  · rw [hm] at HC
    go_wp2_with fail
    refine HC.out.mono ?_
    rintro e w5 ⟨rfl, b5⟩
    have H5 := Lib.hid (HX.out.call b5)
    clear z0 z1 z2 z3 HC b5 HX
    go_upto_region 4 with fail
    have HE := Lib.hid (H5.out.call (Below.drew (Below.refl _ _)))
    have hq : w5.drew.cell? ⟨B, 0, none⟩ = some (.int .i64 v.id) ∧ w5.drew.cell? ⟨B, 1, none⟩ = some (.slice v.no v.n.length v.nc) ∧ w5.drew.cell? ⟨B, 2, none⟩ = some (.slice v.mo v.cs.length v.mc) ∧ w5.drew.cell? ⟨B, 3, none⟩ = some (.slice v.eo v.e.length v.ec) ∧ w5.drew.cell? ⟨X, 0, none⟩ = some (.int .i64 t) ∧ w5.drew.cell? ⟨X, 1, none⟩ = some (.int .i64 m) ∧ w5.drew.cell? ⟨X, 2, none⟩ = some (.int .i64 r) ∧ w5.drew.cell? ⟨X, 3, none⟩ = some (.int .i64 s) ∧ w5.drew.cell? ⟨X, 4, none⟩ = some (.int .i64 k) := ⟨HE.out.d.box.all.1, HE.out.d.box.all.2.1, HE.out.d.box.all.2.2.1, HE.out.d.box.all.2.2.2, HE.out.st.c0, HE.out.st.c1, HE.out.st.c2, HE.out.st.c3, HE.out.st.c4⟩
    clear H5
    refine wp_region_held_drew (S := fun w' => w'.cell? ⟨B, 0, none⟩ = some (.int .i64 v.id) ∧ w'.cell? ⟨B, 1, none⟩ = some (.slice v.no v.n.length v.nc) ∧ w'.cell? ⟨B, 2, none⟩ = some (.slice v.mo v.cs.length v.mc) ∧ w'.cell? ⟨B, 3, none⟩ = some (.slice v.eo v.e.length v.ec) ∧ w'.cell? ⟨X, 0, none⟩ = some (.int .i64 t) ∧ w'.cell? ⟨X, 1, none⟩ = some (.int .i64 m) ∧ w'.cell? ⟨X, 2, none⟩ = some (.int .i64 r) ∧ w'.cell? ⟨X, 3, none⟩ = some (.int .i64 s) ∧ w'.cell? ⟨X, 4, none⟩ = some (.int .i64 k)) (by kernel_rfl) (hq) (fun hHeld => ?_)
    generalize w5.drew = wd at HE hq hHeld ⊢
    refine tk (i := 0) (v := ?_) rfl (Or.inl ⟨by rfl, ?_⟩) (by assumption) ?_
    rotate_left
    · (intro w hSw; (try dsimp only at hSw); go_simp; (try with_reducible rfl))
    try simp only [pa, pb, pc, Act.put, pe, pf, pg]
    refine tk (i := 1) (v := ?_) rfl (Or.inl ⟨by rfl, ?_⟩) (by assumption) ?_
    rotate_left
    · (intro w hSw; (try dsimp only at hSw); go_simp; (try with_reducible rfl))
    try simp only [pa, pb, pc, Act.put, pe, pf, pg]
    have HF := Lib.hid HE.out.fin
    have hr0 := HE.out.d.ret1.all
    dsimp only [Mv.zero, List.length_nil] at hr0
    obtain ⟨r0, r1, r2, r3⟩ := hr0
    have f0 := HE.out.d.ret1.f 0; have f1 := HE.out.d.ret1.f 1; have f2 := HE.out.d.ret1.f 2; have f3 := HE.out.d.ret1.f 3
    have h1 : B ≠ w.heap.size := by have := HE.out.d.bl; omega
    have h2 : X ≠ w.heap.size := by have := HE.out.d.bl; have := HE.out.xb; omega
    have h3 : B ≠ w.heap.size + 1 := by have := HE.out.d.bl; omega
    have h4 : X ≠ w.heap.size + 1 := by have := HE.out.d.bl; have := HE.out.xb; omega
    have HH3 := Lib.hid h3; have HH4 := Lib.hid h4
    clear h3 h4
    have hB := HE.out.d.box.grown (grown_setMv wd w.heap.size v) (by simp; omega)
    have hX := StateAt.grown HE.out.st (grown_setMv wd w.heap.size v) (by simp; omega)
    have hY := StateAt.grown HE.out.d.ret2 (grown_setMv wd w.heap.size v) (by simp)
    have hqm : (setMv wd w.heap.size v).cell? ⟨B, 0, none⟩ = some (.int .i64 v.id) ∧ (setMv wd w.heap.size v).cell? ⟨B, 1, none⟩ = some (.slice v.no v.n.length v.nc) ∧ (setMv wd w.heap.size v).cell? ⟨B, 2, none⟩ = some (.slice v.mo v.cs.length v.mc) ∧ (setMv wd w.heap.size v).cell? ⟨B, 3, none⟩ = some (.slice v.eo v.e.length v.ec) ∧ (setMv wd w.heap.size v).cell? ⟨X, 0, none⟩ = some (.int .i64 t) ∧ (setMv wd w.heap.size v).cell? ⟨X, 1, none⟩ = some (.int .i64 m) ∧ (setMv wd w.heap.size v).cell? ⟨X, 2, none⟩ = some (.int .i64 r) ∧ (setMv wd w.heap.size v).cell? ⟨X, 3, none⟩ = some (.int .i64 s) ∧ (setMv wd w.heap.size v).cell? ⟨X, 4, none⟩ = some (.int .i64 k) := ⟨hB.all.1, hB.all.2.1, hB.all.2.2.1, hB.all.2.2.2, hX.c0, hX.c1, hX.c2, hX.c3, hX.c4⟩
    refine wpAnyH_ready (rs := [2]) (by kernel_rfl) (by simp) (AllReadyH.cons rfl (fun K hK => ?_) AllReadyH.nil)
    go_simp
    refine hK.out _ (setMv wd w.heap.size v) ?_ (fun hHeld => ?_)
    · exact hqm
    clear hK K r0 r1 r2 r3 f0 f1 f2 f3 hq h1 h2
    obtain ⟨wm, hwm⟩ : ∃ W, setMv wd w.heap.size v = W := ⟨_, rfl⟩
    rw [hwm] at HF hB hX hY hqm hHeld ⊢
    clear hwm HE
    try simp only [pa, pb, pc, Act.put, pe, pf, pg]
    have r0 := hY.c0; have r1 := hY.c1; have r2 := hY.c2; have r3 := hY.c3; have r4 := hY.c4
    have f0 := hY.f 0; have f1 := hY.f 1; have f2 := hY.f 2; have f3 := hY.f 3; have f4 := hY.f 4
    have hqf : (setFive wm (w.heap.size + 1) t m r s k).cell? ⟨B, 0, none⟩ = some (.int .i64 v.id) ∧ (setFive wm (w.heap.size + 1) t m r s k).cell? ⟨B, 1, none⟩ = some (.slice v.no v.n.length v.nc) ∧ (setFive wm (w.heap.size + 1) t m r s k).cell? ⟨B, 2, none⟩ = some (.slice v.mo v.cs.length v.mc) ∧ (setFive wm (w.heap.size + 1) t m r s k).cell? ⟨B, 3, none⟩ = some (.slice v.eo v.e.length v.ec) ∧ (setFive wm (w.heap.size + 1) t m r s k).cell? ⟨X, 0, none⟩ = some (.int .i64 t) ∧ (setFive wm (w.heap.size + 1) t m r s k).cell? ⟨X, 1, none⟩ = some (.int .i64 m) ∧ (setFive wm (w.heap.size + 1) t m r s k).cell? ⟨X, 2, none⟩ = some (.int .i64 r) ∧ (setFive wm (w.heap.size + 1) t m r s k).cell? ⟨X, 3, none⟩ = some (.int .i64 s) ∧ (setFive wm (w.heap.size + 1) t m r s k).cell? ⟨X, 4, none⟩ = some (.int .i64 k) := by
      have hB2 := hB.grown (grown_setF wm (w.heap.size + 1) t m r s k) (by have := HH3.out; simp; omega)
      have hX2 := StateAt.grown hX (grown_setF wm (w.heap.size + 1) t m r s k) (by have := HH4.out; simp; omega)
      exact ⟨hB2.all.1, hB2.all.2.1, hB2.all.2.2.1, hB2.all.2.2.2, hX2.c0, hX2.c1, hX2.c2, hX2.c3, hX2.c4⟩
    refine wpAnyH_ready (rs := [3]) (by kernel_rfl) (by simp) (AllReadyH.cons rfl (fun K hK => ?_) AllReadyH.nil)
    go_simp
    refine hK.out _ (setFive wm (w.heap.size + 1) t m r s k) ?_ (fun hHeld => ?_)
    · exact hqf
    clear hK K r0 r1 r2 r3 r4 f0 f1 f2 f3 f4 hqf hB hX hY hqm hHeld
    generalize (setFive wm (w.heap.size + 1) t m r s k) = wz at HF ⊢
    try simp only [pa, pb, pc, Act.put, pe, pf, pg]
    refine wpAnyH_done (by kernel_rfl) ?_ _
    go_wp2_with fail
    obtain ⟨h1, h2, h3, h4, h5, h6⟩ := HF.out
    obtain ⟨e0, e1, e2, e3⟩ := h1.all
    have e4 := h2.c0; have e5 := h2.c1; have e6 := h2.c2; have e7 := h2.c3; have e8 := h2.c4
    exact bodyPost_ret (v := .tuple #[mvVal v, .agg #[.int .i64 t, .int .i64 m, .int .i64 r, .int .i64 s, .int .i64 k]]) (by simp [mvVal, results, Tryz.results68, go_sem, e0, e1, e2, e3, e4, e5, e6, e7, e8]) rfl ⟨v, t, m, r, s, k, rfl, h3, h4, h5, h6⟩
  rw [hm] at HC
  have hw := medl_iff.1 hm
  go_wp2_with fail
  refine HC.out.mono ?_
  rintro e w5 ⟨rfl, b5⟩
  have H5 := Lib.hid (HX.out.call b5)
  clear z0 z1 z2 z3 HC b5 HX hm
  go_wp2_with fail
  refine (next_any _ _ _ H5.out.d.s (by omega)).mono ?_
  rintro e w6 ⟨y, rfl, y0, -, -, hs, g⟩
  have H6 := Lib.hid (H5.out.next hs g)
  clear hs g H5
  by_cases hy : y = 0
  · subst hy
    go_upto_region 4 with fail
    have HE := Lib.hid (H6.out.call (Below.drew (Below.refl _ _)))
    have hq : w6.drew.cell? ⟨B, 0, none⟩ = some (.int .i64 v.id) ∧ w6.drew.cell? ⟨B, 1, none⟩ = some (.slice v.no v.n.length v.nc) ∧ w6.drew.cell? ⟨B, 2, none⟩ = some (.slice v.mo v.cs.length v.mc) ∧ w6.drew.cell? ⟨B, 3, none⟩ = some (.slice v.eo v.e.length v.ec) ∧ w6.drew.cell? ⟨X, 0, none⟩ = some (.int .i64 t) ∧ w6.drew.cell? ⟨X, 1, none⟩ = some (.int .i64 m) ∧ w6.drew.cell? ⟨X, 2, none⟩ = some (.int .i64 r) ∧ w6.drew.cell? ⟨X, 3, none⟩ = some (.int .i64 s) ∧ w6.drew.cell? ⟨X, 4, none⟩ = some (.int .i64 k) := ⟨HE.out.d.box.all.1, HE.out.d.box.all.2.1, HE.out.d.box.all.2.2.1, HE.out.d.box.all.2.2.2, HE.out.st.c0, HE.out.st.c1, HE.out.st.c2, HE.out.st.c3, HE.out.st.c4⟩
    clear H6
    refine wp_region_held_drew (S := fun w' => w'.cell? ⟨B, 0, none⟩ = some (.int .i64 v.id) ∧ w'.cell? ⟨B, 1, none⟩ = some (.slice v.no v.n.length v.nc) ∧ w'.cell? ⟨B, 2, none⟩ = some (.slice v.mo v.cs.length v.mc) ∧ w'.cell? ⟨B, 3, none⟩ = some (.slice v.eo v.e.length v.ec) ∧ w'.cell? ⟨X, 0, none⟩ = some (.int .i64 t) ∧ w'.cell? ⟨X, 1, none⟩ = some (.int .i64 m) ∧ w'.cell? ⟨X, 2, none⟩ = some (.int .i64 r) ∧ w'.cell? ⟨X, 3, none⟩ = some (.int .i64 s) ∧ w'.cell? ⟨X, 4, none⟩ = some (.int .i64 k)) (by kernel_rfl) (hq) (fun hHeld => ?_)
    generalize w6.drew = wd at HE hq hHeld ⊢
    refine tk (i := 0) (v := ?_) rfl (Or.inl ⟨by rfl, ?_⟩) (by assumption) ?_
    rotate_left
    · (intro w hSw; (try dsimp only at hSw); go_simp; (try with_reducible rfl))
    try simp only [pa, pb, pc, Act.put, pe, pf, pg]
    refine tk (i := 1) (v := ?_) rfl (Or.inl ⟨by rfl, ?_⟩) (by assumption) ?_
    rotate_left
    · (intro w hSw; (try dsimp only at hSw); go_simp; (try with_reducible rfl))
    try simp only [pa, pb, pc, Act.put, pe, pf, pg]
    have HF := Lib.hid HE.out.fin
    have hr0 := HE.out.d.ret1.all
    dsimp only [Mv.zero, List.length_nil] at hr0
    obtain ⟨r0, r1, r2, r3⟩ := hr0
    have f0 := HE.out.d.ret1.f 0; have f1 := HE.out.d.ret1.f 1; have f2 := HE.out.d.ret1.f 2; have f3 := HE.out.d.ret1.f 3
    have h1 : B ≠ w.heap.size := by have := HE.out.d.bl; omega
    have h2 : X ≠ w.heap.size := by have := HE.out.d.bl; have := HE.out.xb; omega
    have h3 : B ≠ w.heap.size + 1 := by have := HE.out.d.bl; omega
    have h4 : X ≠ w.heap.size + 1 := by have := HE.out.d.bl; have := HE.out.xb; omega
    have HH3 := Lib.hid h3; have HH4 := Lib.hid h4
    clear h3 h4
    have hB := HE.out.d.box.grown (grown_setMv wd w.heap.size v) (by simp; omega)
    have hX := StateAt.grown HE.out.st (grown_setMv wd w.heap.size v) (by simp; omega)
    have hY := StateAt.grown HE.out.d.ret2 (grown_setMv wd w.heap.size v) (by simp)
    have hqm : (setMv wd w.heap.size v).cell? ⟨B, 0, none⟩ = some (.int .i64 v.id) ∧ (setMv wd w.heap.size v).cell? ⟨B, 1, none⟩ = some (.slice v.no v.n.length v.nc) ∧ (setMv wd w.heap.size v).cell? ⟨B, 2, none⟩ = some (.slice v.mo v.cs.length v.mc) ∧ (setMv wd w.heap.size v).cell? ⟨B, 3, none⟩ = some (.slice v.eo v.e.length v.ec) ∧ (setMv wd w.heap.size v).cell? ⟨X, 0, none⟩ = some (.int .i64 t) ∧ (setMv wd w.heap.size v).cell? ⟨X, 1, none⟩ = some (.int .i64 m) ∧ (setMv wd w.heap.size v).cell? ⟨X, 2, none⟩ = some (.int .i64 r) ∧ (setMv wd w.heap.size v).cell? ⟨X, 3, none⟩ = some (.int .i64 s) ∧ (setMv wd w.heap.size v).cell? ⟨X, 4, none⟩ = some (.int .i64 k) := ⟨hB.all.1, hB.all.2.1, hB.all.2.2.1, hB.all.2.2.2, hX.c0, hX.c1, hX.c2, hX.c3, hX.c4⟩
    refine wpAnyH_ready (rs := [2]) (by kernel_rfl) (by simp) (AllReadyH.cons rfl (fun K hK => ?_) AllReadyH.nil)
    go_simp
    refine hK.out _ (setMv wd w.heap.size v) ?_ (fun hHeld => ?_)
    · exact hqm
    clear hK K r0 r1 r2 r3 f0 f1 f2 f3 hq h1 h2
    obtain ⟨wm, hwm⟩ : ∃ W, setMv wd w.heap.size v = W := ⟨_, rfl⟩
    rw [hwm] at HF hB hX hY hqm hHeld ⊢
    clear hwm HE
    try simp only [pa, pb, pc, Act.put, pe, pf, pg]
    have r0 := hY.c0; have r1 := hY.c1; have r2 := hY.c2; have r3 := hY.c3; have r4 := hY.c4
    have f0 := hY.f 0; have f1 := hY.f 1; have f2 := hY.f 2; have f3 := hY.f 3; have f4 := hY.f 4
    have hqf : (setFive wm (w.heap.size + 1) t m r s k).cell? ⟨B, 0, none⟩ = some (.int .i64 v.id) ∧ (setFive wm (w.heap.size + 1) t m r s k).cell? ⟨B, 1, none⟩ = some (.slice v.no v.n.length v.nc) ∧ (setFive wm (w.heap.size + 1) t m r s k).cell? ⟨B, 2, none⟩ = some (.slice v.mo v.cs.length v.mc) ∧ (setFive wm (w.heap.size + 1) t m r s k).cell? ⟨B, 3, none⟩ = some (.slice v.eo v.e.length v.ec) ∧ (setFive wm (w.heap.size + 1) t m r s k).cell? ⟨X, 0, none⟩ = some (.int .i64 t) ∧ (setFive wm (w.heap.size + 1) t m r s k).cell? ⟨X, 1, none⟩ = some (.int .i64 m) ∧ (setFive wm (w.heap.size + 1) t m r s k).cell? ⟨X, 2, none⟩ = some (.int .i64 r) ∧ (setFive wm (w.heap.size + 1) t m r s k).cell? ⟨X, 3, none⟩ = some (.int .i64 s) ∧ (setFive wm (w.heap.size + 1) t m r s k).cell? ⟨X, 4, none⟩ = some (.int .i64 k) := by
      have hB2 := hB.grown (grown_setF wm (w.heap.size + 1) t m r s k) (by have := HH3.out; simp; omega)
      have hX2 := StateAt.grown hX (grown_setF wm (w.heap.size + 1) t m r s k) (by have := HH4.out; simp; omega)
      exact ⟨hB2.all.1, hB2.all.2.1, hB2.all.2.2.1, hB2.all.2.2.2, hX2.c0, hX2.c1, hX2.c2, hX2.c3, hX2.c4⟩
    refine wpAnyH_ready (rs := [3]) (by kernel_rfl) (by simp) (AllReadyH.cons rfl (fun K hK => ?_) AllReadyH.nil)
    go_simp
    refine hK.out _ (setFive wm (w.heap.size + 1) t m r s k) ?_ (fun hHeld => ?_)
    · exact hqf
    clear hK K r0 r1 r2 r3 r4 f0 f1 f2 f3 f4 hqf hB hX hY hqm hHeld
    generalize (setFive wm (w.heap.size + 1) t m r s k) = wz at HF ⊢
    try simp only [pa, pb, pc, Act.put, pe, pf, pg]
    refine wpAnyH_done (by kernel_rfl) ?_ _
    go_wp2_with fail
    obtain ⟨h1, h2, h3, h4, h5, h6⟩ := HF.out
    obtain ⟨e0, e1, e2, e3⟩ := h1.all
    have e4 := h2.c0; have e5 := h2.c1; have e6 := h2.c2; have e7 := h2.c3; have e8 := h2.c4
    exact bodyPost_ret (v := .tuple #[mvVal v, .agg #[.int .i64 t, .int .i64 m, .int .i64 r, .int .i64 s, .int .i64 k]]) (by simp [mvVal, results, Tryz.results68, go_sem, e0, e1, e2, e3, e4, e5, e6, e7, e8]) rfl ⟨v, t, m, r, s, k, rfl, h3, h4, h5, h6⟩
  have hyb : (y == 0) = false := by simp [hy]
  clear hy
  go_wp2_with fail
  refine (next_any _ _ _ H6.out.d.s (by omega)).mono ?_
  rintro e w7 ⟨a, rfl, -, -, -, hs, g⟩
  have H7 := Lib.hid (H6.out.next hs g)
  clear hs g H6
  have x0 := H7.out.st.c0; have f0 := H7.out.st.f 0
  go_upto_region 6 with fail
  have H8 := Lib.hid (H7.out.set0 a)
  clear x0 f0 H7
  generalize w7.setCell ⟨X, 0, none⟩ (.int .i64 a) = w8 at H8 ⊢
  obtain ⟨z0, z1, z2, z3⟩ := H8.out.d.box.all
  have hml : v.cs.length ≤ 17 := H8.out.d.a.cs.1
  go_wp2_with fail
  refine (next_any _ _ _ H8.out.d.s (by omega)).mono ?_
  rintro e w9 ⟨b, rfl, b0, bx, bz, hs, g⟩
  have H9 := Lib.hid (H8.out.next hs g)
  clear hs g H8 z0 z1 z2 z3
  have x1 := H9.out.st.c1; have f1 := H9.out.st.f 1
  go_upto_region 7 with fail
  have HA := Lib.hid (H9.out.set1 b)
  clear x1 f1 H9
  generalize w9.setCell ⟨X, 1, none⟩ (.int .i64 b) = wa at HA ⊢
  have hcl : 1 ≤ v.cs.length := by have h := (isModes_iff.1 hw.r3).1.1; rwa [show v.me.modes = mds v.cs from rfl, mds_len] at h
  obtain ⟨bi, hbi⟩ : ∃ i : Nat, b = i := ⟨b.toNat, by omega⟩
  subst hbi
  have hbl : bi < v.cs.length := by
    by_cases h2 : 1 < (v.cs.length : Int)
    · have := bx h2; omega
    · have := bz (by omega); omega
  clear bx bz b0
  have hbd := md_bounds hw.r3 (k := bi) (by rw [show v.me.modes = mds v.cs from rfl, mds_len]; exact hbl)
  rw [show mdOf v.me.modes bi = (mcOf v.cs bi).md from mdOf_mds ..] at hbd
  obtain ⟨R, hR⟩ : ∃ R, (mcOf v.cs bi).md.rounds = R := ⟨_, rfl⟩
  obtain ⟨N, hN⟩ : ∃ N, (mcOf v.cs bi).md.slots = N := ⟨_, rfl⟩
  rw [hR, hN] at hbd
  obtain ⟨g, off, e0, -⟩ := HA.out.d.low.rm.here (by omega)
  have HSF := Lib.hid (fun W t r s k (h : D15 w w1 W p B X v t bi r s k) => (show W.cell? ⟨B, 0, none⟩ = some (.int .i64 v.id) ∧ W.cell? ⟨B, 1, none⟩ = some (.slice v.no v.n.length v.nc) ∧ W.cell? ⟨B, 2, none⟩ = some (.slice (some ⟨g, off, none⟩) v.cs.length v.mc) ∧ W.cell? ⟨B, 3, none⟩ = some (.slice v.eo v.e.length v.ec) ∧ W.cell? ⟨X, 1, none⟩ = some (.int .i64 bi) ∧ W.cell? ⟨g, off + bi * 3, none⟩ = some (.int .i64 R) ∧ W.cell? ⟨g, off + bi * 3 + 1, none⟩ = some (.int .i64 N) from by
    obtain ⟨z0, z1, z2, z3⟩ := h.d.box.all
    rw [e0] at z2
    obtain ⟨g', off', e1, hx⟩ := h.d.low.rm.here (by omega)
    rw [e0] at e1
    cases e1
    have h2 := hx bi hbl
    exact ⟨z0, z1, z2, z3, h.st.c1, by rw [← hR]; exact h2.c0, by rw [← hN]; exact h2.c1⟩))
  have hil : (bi : Int) < (v.cs.length : Int) := by omega
  have HT := Lib.hid hw.r2
  clear e0 hR hN hw hcl hml
  go_upto_region 7 with fail
  have HD7 := Lib.hid (HA.out.call (Below.drew (Below.refl _ _)))
  have hq := HSF.out _ _ _ _ _ HD7.out
  clear HA
  refine wp_region_held_drew (S := fun w' => w'.cell? ⟨B, 0, none⟩ = some (.int .i64 v.id) ∧ w'.cell? ⟨B, 1, none⟩ = some (.slice v.no v.n.length v.nc) ∧ w'.cell? ⟨B, 2, none⟩ = some (.slice (some ⟨g, off, none⟩) v.cs.length v.mc) ∧ w'.cell? ⟨B, 3, none⟩ = some (.slice v.eo v.e.length v.ec) ∧ w'.cell? ⟨X, 1, none⟩ = some (.int .i64 bi) ∧ w'.cell? ⟨g, off + bi * 3, none⟩ = some (.int .i64 R) ∧ w'.cell? ⟨g, off + bi * 3 + 1, none⟩ = some (.int .i64 N)) (by kernel_rfl) (hq) (fun hHeld => ?_)
  generalize wa.drew = wd at HD7 hq hHeld ⊢
  refine tk (i := 0) (v := ?_) rfl (Or.inl ⟨by rfl, ?_⟩) (by assumption) ?_
  rotate_left
  · (intro w hSw; (try dsimp only at hSw); go_simp; (try with_reducible rfl))
  try simp only [pa, pb, pc, Act.put, pe, pf, pg]
  refine tk (i := 1) (v := ?_) rfl (Or.inl ⟨by rfl, ?_⟩) (by assumption) ?_
  rotate_left
  · (intro w hSw; (try dsimp only at hSw); go_simp; (try with_reducible rfl))
  try simp only [pa, pb, pc, Act.put, pe, pf, pg]
  refine tk (i := 2) (v := ?_) rfl (Or.inl ⟨by rfl, ?_⟩) (by assumption) ?_
  rotate_left
  · (intro w hSw; (try dsimp only at hSw); go_simp; (try with_reducible rfl))
  try simp only [pa, pb, pc, Act.put, pe, pf, pg]
  refine tk (i := 3) (v := ?_) rfl (Or.inl ⟨by rfl, ?_⟩) (by assumption) ?_
  rotate_left
  · (intro w hSw; (try dsimp only at hSw); go_simp; (try with_reducible rfl))
  try simp only [pa, pb, pc, Act.put, pe, pf, pg]
  refine tk (i := 4) (v := ?_) rfl (Or.inl ⟨by rfl, ?_⟩) (by assumption) ?_
  rotate_left
  · (intro w hSw; (try dsimp only at hSw); go_simp; (try with_reducible rfl))
  try simp only [pa, pb, pc, Act.put, pe, pf, pg]
  refine tk (i := 5) (v := ?_) rfl (Or.inl ⟨by rfl, ?_⟩) (by assumption) ?_
  rotate_left
  · (intro w hSw; (try dsimp only at hSw); go_simp; (try with_reducible rfl))
  try simp only [pa, pb, pc, Act.put, pe, pf, pg]
  refine tk (i := 6) (v := ?_) rfl (Or.inl ⟨by rfl, ?_⟩) (by assumption) ?_
  rotate_left
  · (intro w hSw; (try dsimp only at hSw); go_simp; (try with_reducible rfl))
  try simp only [pa, pb, pc, Act.put, pe, pf, pg]
  refine tk (i := 7) (v := ?_) rfl (Or.inl ⟨by rfl, ?_⟩) (by assumption) ?_
  rotate_left
  · (intro w hSw; (try dsimp only at hSw); go_simp; (try with_reducible rfl))
  try simp only [pa, pb, pc, Act.put, pe, pf, pg]
  refine tk (i := 8) (v := ?_) rfl (Or.inl ⟨by rfl, ?_⟩) (by assumption) ?_
  rotate_left
  · (intro w hSw; (try dsimp only at hSw); go_simp; (try with_reducible rfl))
  try simp only [pa, pb, pc, Act.put, pe, pf, pg]
  refine wpAnyH_ready (rs := [9]) (by kernel_rfl) (by simp) (AllReadyH.cons rfl (fun K hK => ?_) AllReadyH.nil)
  go_simp
  refine (next_any _ _ _ HD7.out.d.s (by omega)).mono ?_
  rintro e wx7 ⟨c, rfl, c0, cx, -, hs, gg⟩
  have HA7 := Lib.hid (HD7.out.next hs gg)
  clear hs gg hq HD7
  have hq := HSF.out _ _ _ _ _ HA7.out
  obtain ⟨c5, hc5⟩ : ∃ d, Int.tdiv c 29 = d := ⟨_, rfl⟩
  have hc5' : c / 29 = c5 := by rw [← hc5, Int.tdiv_eq_ediv_of_nonneg c0]
  have hc5w : IntKind.i64.wrap c5 = c5 := by rw [IntKind.wrap_i64]; have := cx (by omega); omega
  have hc6 : IntKind.i64.wrap (R + c5) = R + c5 := by rw [IntKind.wrap_i64]; have := cx (by omega); omega
  have hc6b : R + c5 ≤ 9223372036854775807 := by have := cx (by omega); omega
  go_wp2_with fail
  refine hK.out _ _ ?_ (fun hHeld => ?_)
  · exact hq
  clear hK K
  try simp only [pa, pb, pc, Act.put, pe, pf, pg]
  refine tk (i := 10) (v := ?_) rfl (Or.inl ⟨by rfl, ?_⟩) (by assumption) ?_
  rotate_left
  · (intro w hSw; (try dsimp only at hSw); go_simp; (try with_reducible rfl))
  try simp only [pa, pb, pc, Act.put, pe, pf, pg]
  refine tk (i := 11) (v := ?_) rfl (Or.inl ⟨by rfl, ?_⟩) (by assumption) ?_
  rotate_left
  · (intro w hSw; (try dsimp only at hSw); go_simp; (try with_reducible rfl))
  try simp only [pa, pb, pc, Act.put, pe, pf, pg]
  refine wpAnyH_ready (rs := [12]) (by kernel_rfl) (by simp) (AllReadyH.cons rfl (fun K hK => ?_) AllReadyH.nil)
  go_simp
  refine (next_any _ _ _ HA7.out.d.s hc6b).mono ?_
  rintro e wy7 ⟨r', rfl, -, -, -, hs, gg⟩
  have HB7 := Lib.hid (HA7.out.next hs gg)
  clear hs gg hq HA7 hc5 hc5' hc5w hc6 hc6b c0 cx
  have hq := HSF.out _ _ _ _ _ HB7.out
  go_wp2_with fail
  refine hK.out _ _ ?_ (fun hHeld => ?_)
  · exact hq
  clear hK K
  try simp only [pa, pb, pc, Act.put, pe, pf, pg]
  refine tk (i := 13) (v := ?_) rfl (Or.inl ⟨by rfl, ?_⟩) (by assumption) ?_
  rotate_left
  · (intro w hSw; (try dsimp only at hSw); go_simp; (try with_reducible rfl))
  try simp only [pa, pb, pc, Act.put, pe, pf, pg]
  have HE7 := Lib.hid (HB7.out.set2 r')
  have hqs := HSF.out _ _ _ _ _ HE7.out
  have x2 := HB7.out.st.c2; have f2 := HB7.out.st.f 2
  refine wpAnyH_ready (rs := [14]) (by kernel_rfl) (by simp) (AllReadyH.cons rfl (fun K hK => ?_) AllReadyH.nil)
  go_simp
  refine hK.out _ _ ?_ (fun hHeld => ?_)
  · exact hqs
  clear hK K hq hqs x2 f2 HB7 hHeld
  generalize wy7.setCell ⟨X, 2, none⟩ (.int .i64 r') = wb at HE7 ⊢
  try simp only [pa, pb, pc, Act.put, pe, pf, pg]
  refine wpAnyH_done (by kernel_rfl) ?_ _
  go_upto_region 8 with fail
  have HD8 := Lib.hid (HE7.out.call (Below.drew (Below.refl _ _)))
  have hq := HSF.out _ _ _ _ _ HD8.out
  clear HE7
  refine wp_region_held_drew (S := fun w' => w'.cell? ⟨B, 0, none⟩ = some (.int .i64 v.id) ∧ w'.cell? ⟨B, 1, none⟩ = some (.slice v.no v.n.length v.nc) ∧ w'.cell? ⟨B, 2, none⟩ = some (.slice (some ⟨g, off, none⟩) v.cs.length v.mc) ∧ w'.cell? ⟨B, 3, none⟩ = some (.slice v.eo v.e.length v.ec) ∧ w'.cell? ⟨X, 1, none⟩ = some (.int .i64 bi) ∧ w'.cell? ⟨g, off + bi * 3, none⟩ = some (.int .i64 R) ∧ w'.cell? ⟨g, off + bi * 3 + 1, none⟩ = some (.int .i64 N)) (by kernel_rfl) (hq) (fun hHeld => ?_)
  generalize wb.drew = wd at HD8 hq hHeld ⊢
  refine tk (i := 0) (v := ?_) rfl (Or.inl ⟨by rfl, ?_⟩) (by assumption) ?_
  rotate_left
  · (intro w hSw; (try dsimp only at hSw); go_simp; (try with_reducible rfl))
  try simp only [pa, pb, pc, Act.put, pe, pf, pg]
  refine tk (i := 1) (v := ?_) rfl (Or.inl ⟨by rfl, ?_⟩) (by assumption) ?_
  rotate_left
  · (intro w hSw; (try dsimp only at hSw); go_simp; (try with_reducible rfl))
  try simp only [pa, pb, pc, Act.put, pe, pf, pg]
  refine tk (i := 2) (v := ?_) rfl (Or.inl ⟨by rfl, ?_⟩) (by assumption) ?_
  rotate_left
  · (intro w hSw; (try dsimp only at hSw); go_simp; (try with_reducible rfl))
  try simp only [pa, pb, pc, Act.put, pe, pf, pg]
  refine tk (i := 3) (v := ?_) rfl (Or.inl ⟨by rfl, ?_⟩) (by assumption) ?_
  rotate_left
  · (intro w hSw; (try dsimp only at hSw); go_simp; (try with_reducible rfl))
  try simp only [pa, pb, pc, Act.put, pe, pf, pg]
  refine tk (i := 4) (v := ?_) rfl (Or.inl ⟨by rfl, ?_⟩) (by assumption) ?_
  rotate_left
  · (intro w hSw; (try dsimp only at hSw); go_simp; (try with_reducible rfl))
  try simp only [pa, pb, pc, Act.put, pe, pf, pg]
  refine tk (i := 5) (v := ?_) rfl (Or.inl ⟨by rfl, ?_⟩) (by assumption) ?_
  rotate_left
  · (intro w hSw; (try dsimp only at hSw); go_simp; (try with_reducible rfl))
  try simp only [pa, pb, pc, Act.put, pe, pf, pg]
  refine tk (i := 6) (v := ?_) rfl (Or.inl ⟨by rfl, ?_⟩) (by assumption) ?_
  rotate_left
  · (intro w hSw; (try dsimp only at hSw); go_simp; (try with_reducible rfl))
  try simp only [pa, pb, pc, Act.put, pe, pf, pg]
  refine tk (i := 7) (v := ?_) rfl (Or.inl ⟨by rfl, ?_⟩) (by assumption) ?_
  rotate_left
  · (intro w hSw; (try dsimp only at hSw); go_simp; (try with_reducible rfl))
  try simp only [pa, pb, pc, Act.put, pe, pf, pg]
  refine tk (i := 8) (v := ?_) rfl (Or.inl ⟨by rfl, ?_⟩) (by assumption) ?_
  rotate_left
  · (intro w hSw; (try dsimp only at hSw); go_simp; (try with_reducible rfl))
  try simp only [pa, pb, pc, Act.put, pe, pf, pg]
  refine wpAnyH_ready (rs := [9]) (by kernel_rfl) (by simp) (AllReadyH.cons rfl (fun K hK => ?_) AllReadyH.nil)
  go_simp
  refine (next_any _ _ _ HD8.out.d.s (by omega)).mono ?_
  rintro e wx8 ⟨c, rfl, c0, cx, -, hs, gg⟩
  have HA8 := Lib.hid (HD8.out.next hs gg)
  clear hs gg hq HD8
  have hq := HSF.out _ _ _ _ _ HA8.out
  obtain ⟨c5, hc5⟩ : ∃ d, Int.tdiv c 29 = d := ⟨_, rfl⟩
  have hc5' : c / 29 = c5 := by rw [← hc5, Int.tdiv_eq_ediv_of_nonneg c0]
  have hc5w : IntKind.i64.wrap c5 = c5 := by rw [IntKind.wrap_i64]; have := cx (by omega); omega
  have hc6 : IntKind.i64.wrap (N + c5) = N + c5 := by rw [IntKind.wrap_i64]; have := cx (by omega); omega
  have hc6b : N + c5 ≤ 9223372036854775807 := by have := cx (by omega); omega
  go_wp2_with fail
  refine hK.out _ _ ?_ (fun hHeld => ?_)
  · exact hq
  clear hK K
  try simp only [pa, pb, pc, Act.put, pe, pf, pg]
  refine tk (i := 10) (v := ?_) rfl (Or.inl ⟨by rfl, ?_⟩) (by assumption) ?_
  rotate_left
  · (intro w hSw; (try dsimp only at hSw); go_simp; (try with_reducible rfl))
  try simp only [pa, pb, pc, Act.put, pe, pf, pg]
  refine tk (i := 11) (v := ?_) rfl (Or.inl ⟨by rfl, ?_⟩) (by assumption) ?_
  rotate_left
  · (intro w hSw; (try dsimp only at hSw); go_simp; (try with_reducible rfl))
  try simp only [pa, pb, pc, Act.put, pe, pf, pg]
  refine wpAnyH_ready (rs := [12]) (by kernel_rfl) (by simp) (AllReadyH.cons rfl (fun K hK => ?_) AllReadyH.nil)
  go_simp
  refine (next_any _ _ _ HA8.out.d.s hc6b).mono ?_
  rintro e wy8 ⟨s', rfl, -, -, -, hs, gg⟩
  have HB8 := Lib.hid (HA8.out.next hs gg)
  clear hs gg hq HA8 hc5 hc5' hc5w hc6 hc6b c0 cx
  have hq := HSF.out _ _ _ _ _ HB8.out
  go_wp2_with fail
  refine hK.out _ _ ?_ (fun hHeld => ?_)
  · exact hq
  clear hK K
  try simp only [pa, pb, pc, Act.put, pe, pf, pg]
  refine tk (i := 13) (v := ?_) rfl (Or.inl ⟨by rfl, ?_⟩) (by assumption) ?_
  rotate_left
  · (intro w hSw; (try dsimp only at hSw); go_simp; (try with_reducible rfl))
  try simp only [pa, pb, pc, Act.put, pe, pf, pg]
  have HE8 := Lib.hid (HB8.out.set3 s')
  have hqs := HSF.out _ _ _ _ _ HE8.out
  have x3 := HB8.out.st.c3; have f3 := HB8.out.st.f 3
  refine wpAnyH_ready (rs := [14]) (by kernel_rfl) (by simp) (AllReadyH.cons rfl (fun K hK => ?_) AllReadyH.nil)
  go_simp
  refine hK.out _ _ ?_ (fun hHeld => ?_)
  · exact hqs
  clear hK K hq hqs x3 f3 HB8 hHeld
  generalize wy8.setCell ⟨X, 3, none⟩ (.int .i64 s') = wc at HE8 ⊢
  try simp only [pa, pb, pc, Act.put, pe, pf, pg]
  refine wpAnyH_done (by kernel_rfl) ?_ _
  clear HSF hil hbd hbl
  have HAC := Lib.hid (l10Active_any v.no v.n.length v.nc v.n wc HE8.out.d.low.rn (by have := HE8.out.d.a.nl; omega) HT.out)
  obtain ⟨A, hA⟩ : ∃ A : Int, ((actTo v.n v.n.length : Nat) : Int) = A := ⟨_, rfl⟩
  rw [hA] at HAC
  obtain ⟨z0, z1, z2, z3⟩ := HE8.out.d.box.all
  go_wp2_with fail
  refine HAC.out.mono ?_
  rintro e w10 ⟨rfl, rfl⟩
  clear z0 z1 z2 z3 HAC HT hA
  have x4 := HE8.out.st.c4; have f4 := HE8.out.st.f 4
  go_upto_region 10 with fail
  have HF9 := Lib.hid (HE8.out.set4 A)
  clear x4 f4 HE8
  generalize wc.setCell ⟨X, 4, none⟩ (.int .i64 A) = wf at HF9 ⊢
  go_wp2_with fail
  refine (next_any _ _ _ HF9.out.d.s (by omega)).mono ?_
  rintro e wg ⟨y2, rfl, -, -, -, hs, g⟩
  have HG := Lib.hid (HF9.out.next hs g)
  clear hs g HF9
  by_cases hy : y2 = 0
  · subst hy
    go_upto_region 11 with fail
    have HD11 := Lib.hid (HG.out.call (Below.drew (Below.refl _ _)))
    clear HG
    have hq := HD11.out.d.box.all.1
    refine wp_region_held_drew (S := fun w' => w'.cell? ⟨B, 0, none⟩ = some (.int .i64 v.id)) (by kernel_rfl) (hq) (fun hHeld => ?_)
    generalize wg.drew = wd at HD11 hq hHeld ⊢
    refine tk (i := 0) (v := ?_) rfl (Or.inl ⟨by rfl, ?_⟩) (by assumption) ?_
    rotate_left
    · (intro w hSw; (try dsimp only at hSw); go_simp; (try with_reducible rfl))
    try simp only [pa, pb, pc, Act.put, pe, pf, pg]
    refine tk (i := 2) (v := ?_) rfl (Or.inl ⟨by rfl, ?_⟩) (by assumption) ?_
    rotate_left
    · (intro w hSw; (try dsimp only at hSw); go_simp; (try with_reducible rfl))
    try simp only [pa, pb, pc, Act.put, pe, pf, pg]
    have x4 := HD11.out.st.c4
    refine wpAnyH_ready (rs := [1, 3]) (by kernel_rfl) (by simp) (AllReadyH.cons rfl (fun K hK => ?_) (AllReadyH.cons rfl (fun K hK => ?_) AllReadyH.nil))
    · go_simp
      refine hK.out _ _ ?_ (fun hHeld => ?_)
      · exact hq
      clear hK K
      try simp only [pa, pb, pc, Act.put, pe, pf, pg]
      refine wpAnyH_ready (rs := [3]) (by kernel_rfl) (by simp) (AllReadyH.cons rfl (fun K hK => ?_) AllReadyH.nil)
      go_simp
      refine (next_any _ _ _ HD11.out.d.s (by omega)).mono ?_
      rintro e wx11 ⟨z, rfl, z0, zx, -, hs, gg⟩
      have HA11 := Lib.hid (HD11.out.next hs gg)
      clear hs gg hq HD11 x4
      have hq := HA11.out.d.box.all.1
      obtain ⟨c8, hc8⟩ : ∃ c, bits .and .i64 A z = c := ⟨_, rfl⟩
      go_wp2_with fail
      refine hK.out _ _ ?_ (fun hHeld => ?_)
      · exact hq
      clear hK K
      try simp only [pa, pb, pc, Act.put, pe, pf, pg]
      refine tk (i := 4) (v := ?_) rfl (Or.inl ⟨by rfl, ?_⟩) (by assumption) ?_
      rotate_left
      · (intro w hSw; (try dsimp only at hSw); go_simp; (try with_reducible rfl))
      try simp only [pa, pb, pc, Act.put, pe, pf, pg]
      refine tk (i := 5) (v := ?_) rfl (Or.inl ⟨by rfl, ?_⟩) (by assumption) ?_
      rotate_left
      · (intro w hSw; (try dsimp only at hSw); go_simp; (try with_reducible rfl))
      try simp only [pa, pb, pc, Act.put, pe, pf, pg]
      have HE11 := Lib.hid (HA11.out.set4 c8)
      have hqs := HE11.out.d.box.all.1
      have x4 := HA11.out.st.c4; have f4 := HA11.out.st.f 4
      refine wpAnyH_ready (rs := [6]) (by kernel_rfl) (by simp) (AllReadyH.cons rfl (fun K hK => ?_) AllReadyH.nil)
      go_simp
      refine hK.out _ _ ?_ (fun hHeld => ?_)
      · exact hqs
      clear hK K hq hqs x4 f4 HA11 hHeld
      generalize wx11.setCell ⟨X, 4, none⟩ (.int .i64 c8) = wk at HE11 ⊢
      try simp only [pa, pb, pc, Act.put, pe, pf, pg]
      refine wpAnyH_done (by kernel_rfl) ?_ _
      go_wp2_with fail
      refine (next_any _ _ _ HE11.out.d.s (by omega)).mono ?_
      rintro e wh ⟨y3, rfl, -, -, -, hs, gg⟩
      have HH := Lib.hid (HE11.out.next hs gg)
      clear hs gg HE11
      by_cases hy3 : y3 = 0
      · subst hy3
        go_upto_region 13 with fail
        have HD13 := Lib.hid (HH.out.call (Below.drew (Below.refl _ _)))
        clear HH
        have hq := HD13.out.d.box.all.1
        refine wp_region_held_drew (S := fun w' => w'.cell? ⟨B, 0, none⟩ = some (.int .i64 v.id)) (by kernel_rfl) (hq) (fun hHeld => ?_)
        generalize wh.drew = wd at HD13 hq hHeld ⊢
        refine tk (i := 0) (v := ?_) rfl (Or.inl ⟨by rfl, ?_⟩) (by assumption) ?_
        rotate_left
        · (intro w hSw; (try dsimp only at hSw); go_simp; (try with_reducible rfl))
        try simp only [pa, pb, pc, Act.put, pe, pf, pg]
        refine tk (i := 2) (v := ?_) rfl (Or.inl ⟨by rfl, ?_⟩) (by assumption) ?_
        rotate_left
        · (intro w hSw; (try dsimp only at hSw); go_simp; (try with_reducible rfl))
        try simp only [pa, pb, pc, Act.put, pe, pf, pg]
        have x4 := HD13.out.st.c4
        refine wpAnyH_ready (rs := [1, 3]) (by kernel_rfl) (by simp) (AllReadyH.cons rfl (fun K hK => ?_) (AllReadyH.cons rfl (fun K hK => ?_) AllReadyH.nil))
        · go_simp
          refine hK.out _ _ ?_ (fun hHeld => ?_)
          · exact hq
          clear hK K
          try simp only [pa, pb, pc, Act.put, pe, pf, pg]
          refine wpAnyH_ready (rs := [3]) (by kernel_rfl) (by simp) (AllReadyH.cons rfl (fun K hK => ?_) AllReadyH.nil)
          go_simp
          refine (next_any _ _ _ HD13.out.d.s (by omega)).mono ?_
          rintro e wx13 ⟨z, rfl, z0, zx, -, hs, gg⟩
          have HA13 := Lib.hid (HD13.out.next hs gg)
          clear hs gg hq HD13 x4
          have hq := HA13.out.d.box.all.1
          have hzu : z ≤ 64 := by have := zx (by omega); omega
          have hzw : IntKind.u64.wrap z = z := by rw [IntKind.wrap_u64]; omega
          obtain ⟨dz, hdz⟩ : ∃ d, IntKind.i64.wrap (1 * 2 ^ z.toNat) = d := ⟨_, rfl⟩
          have hdy : IntKind.i64.wrap (2 ^ z.toNat) = dz := by rw [← hdz, Int.one_mul]
          obtain ⟨c9, hc9⟩ : ∃ c, bits .xor .i64 c8 dz = c := ⟨_, rfl⟩
          go_wp2_with fail
          refine hK.out _ _ ?_ (fun hHeld => ?_)
          · exact hq
          clear hK K
          try simp only [pa, pb, pc, Act.put, pe, pf, pg]
          refine tk (i := 4) (v := ?_) rfl (Or.inl ⟨by rfl, ?_⟩) (by assumption) ?_
          rotate_left
          · (intro w hSw; (try dsimp only at hSw); go_simp; (try with_reducible rfl))
          try simp only [pa, pb, pc, Act.put, pe, pf, pg]
          refine tk (i := 5) (v := ?_) rfl (Or.inl ⟨by rfl, ?_⟩) (by assumption) ?_
          rotate_left
          · (intro w hSw; (try dsimp only at hSw); go_simp; (try with_reducible rfl))
          try simp only [pa, pb, pc, Act.put, pe, pf, pg]
          refine tk (i := 6) (v := ?_) rfl (Or.inl ⟨by rfl, ?_⟩) (by assumption) ?_
          rotate_left
          · (intro w hSw; (try dsimp only at hSw); go_simp; (try with_reducible rfl))
          try simp only [pa, pb, pc, Act.put, pe, pf, pg]
          refine tk (i := 7) (v := ?_) rfl (Or.inl ⟨by rfl, ?_⟩) (by assumption) ?_
          rotate_left
          · (intro w hSw; (try dsimp only at hSw); go_simp; (try with_reducible rfl))
          try simp only [pa, pb, pc, Act.put, pe, pf, pg]
          have HE13 := Lib.hid (HA13.out.set4 c9)
          have hqs := HE13.out.d.box.all.1
          have x4 := HA13.out.st.c4; have f4 := HA13.out.st.f 4
          refine wpAnyH_ready (rs := [8]) (by kernel_rfl) (by simp) (AllReadyH.cons rfl (fun K hK => ?_) AllReadyH.nil)
          go_simp
          refine hK.out _ _ ?_ (fun hHeld => ?_)
          · exact hqs
          clear hK K hq hqs x4 f4 HA13 hHeld
          generalize wx13.setCell ⟨X, 4, none⟩ (.int .i64 c9) = wi at HE13 ⊢
          try simp only [pa, pb, pc, Act.put, pe, pf, pg]
          refine wpAnyH_done (by kernel_rfl) ?_ _
          go_upto_region 14 with fail
          have HE := Lib.hid (HE13.out.call (Below.drew (Below.refl _ _)))
          have hq : wi.drew.cell? ⟨B, 0, none⟩ = some (.int .i64 v.id) ∧ wi.drew.cell? ⟨B, 1, none⟩ = some (.slice v.no v.n.length v.nc) ∧ wi.drew.cell? ⟨B, 2, none⟩ = some (.slice v.mo v.cs.length v.mc) ∧ wi.drew.cell? ⟨B, 3, none⟩ = some (.slice v.eo v.e.length v.ec) ∧ wi.drew.cell? ⟨X, 0, none⟩ = some (.int .i64 a) ∧ wi.drew.cell? ⟨X, 1, none⟩ = some (.int .i64 bi) ∧ wi.drew.cell? ⟨X, 2, none⟩ = some (.int .i64 r') ∧ wi.drew.cell? ⟨X, 3, none⟩ = some (.int .i64 s') ∧ wi.drew.cell? ⟨X, 4, none⟩ = some (.int .i64 c9) := ⟨HE.out.d.box.all.1, HE.out.d.box.all.2.1, HE.out.d.box.all.2.2.1, HE.out.d.box.all.2.2.2, HE.out.st.c0, HE.out.st.c1, HE.out.st.c2, HE.out.st.c3, HE.out.st.c4⟩
          clear HE13
          refine wp_region_held_drew (S := fun w' => w'.cell? ⟨B, 0, none⟩ = some (.int .i64 v.id) ∧ w'.cell? ⟨B, 1, none⟩ = some (.slice v.no v.n.length v.nc) ∧ w'.cell? ⟨B, 2, none⟩ = some (.slice v.mo v.cs.length v.mc) ∧ w'.cell? ⟨B, 3, none⟩ = some (.slice v.eo v.e.length v.ec) ∧ w'.cell? ⟨X, 0, none⟩ = some (.int .i64 a) ∧ w'.cell? ⟨X, 1, none⟩ = some (.int .i64 bi) ∧ w'.cell? ⟨X, 2, none⟩ = some (.int .i64 r') ∧ w'.cell? ⟨X, 3, none⟩ = some (.int .i64 s') ∧ w'.cell? ⟨X, 4, none⟩ = some (.int .i64 c9)) (by kernel_rfl) (hq) (fun hHeld => ?_)
          generalize wi.drew = wd at HE hq hHeld ⊢
          refine tk (i := 0) (v := ?_) rfl (Or.inl ⟨by rfl, ?_⟩) (by assumption) ?_
          rotate_left
          · (intro w hSw; (try dsimp only at hSw); go_simp; (try with_reducible rfl))
          try simp only [pa, pb, pc, Act.put, pe, pf, pg]
          refine tk (i := 1) (v := ?_) rfl (Or.inl ⟨by rfl, ?_⟩) (by assumption) ?_
          rotate_left
          · (intro w hSw; (try dsimp only at hSw); go_simp; (try with_reducible rfl))
          try simp only [pa, pb, pc, Act.put, pe, pf, pg]
          have HF := Lib.hid HE.out.fin
          have hr0 := HE.out.d.ret1.all
          dsimp only [Mv.zero, List.length_nil] at hr0
          obtain ⟨r0, r1, r2, r3⟩ := hr0
          have f0 := HE.out.d.ret1.f 0; have f1 := HE.out.d.ret1.f 1; have f2 := HE.out.d.ret1.f 2; have f3 := HE.out.d.ret1.f 3
          have h1 : B ≠ w.heap.size := by have := HE.out.d.bl; omega
          have h2 : X ≠ w.heap.size := by have := HE.out.d.bl; have := HE.out.xb; omega
          have h3 : B ≠ w.heap.size + 1 := by have := HE.out.d.bl; omega
          have h4 : X ≠ w.heap.size + 1 := by have := HE.out.d.bl; have := HE.out.xb; omega
          have HH3 := Lib.hid h3; have HH4 := Lib.hid h4
          clear h3 h4
          have hB := HE.out.d.box.grown (grown_setMv wd w.heap.size v) (by simp; omega)
          have hX := StateAt.grown HE.out.st (grown_setMv wd w.heap.size v) (by simp; omega)
          have hY := StateAt.grown HE.out.d.ret2 (grown_setMv wd w.heap.size v) (by simp)
          have hqm : (setMv wd w.heap.size v).cell? ⟨B, 0, none⟩ = some (.int .i64 v.id) ∧ (setMv wd w.heap.size v).cell? ⟨B, 1, none⟩ = some (.slice v.no v.n.length v.nc) ∧ (setMv wd w.heap.size v).cell? ⟨B, 2, none⟩ = some (.slice v.mo v.cs.length v.mc) ∧ (setMv wd w.heap.size v).cell? ⟨B, 3, none⟩ = some (.slice v.eo v.e.length v.ec) ∧ (setMv wd w.heap.size v).cell? ⟨X, 0, none⟩ = some (.int .i64 a) ∧ (setMv wd w.heap.size v).cell? ⟨X, 1, none⟩ = some (.int .i64 bi) ∧ (setMv wd w.heap.size v).cell? ⟨X, 2, none⟩ = some (.int .i64 r') ∧ (setMv wd w.heap.size v).cell? ⟨X, 3, none⟩ = some (.int .i64 s') ∧ (setMv wd w.heap.size v).cell? ⟨X, 4, none⟩ = some (.int .i64 c9) := ⟨hB.all.1, hB.all.2.1, hB.all.2.2.1, hB.all.2.2.2, hX.c0, hX.c1, hX.c2, hX.c3, hX.c4⟩
          refine wpAnyH_ready (rs := [2]) (by kernel_rfl) (by simp) (AllReadyH.cons rfl (fun K hK => ?_) AllReadyH.nil)
          go_simp
          refine hK.out _ (setMv wd w.heap.size v) ?_ (fun hHeld => ?_)
          · exact hqm
          clear hK K r0 r1 r2 r3 f0 f1 f2 f3 hq h1 h2
          obtain ⟨wm, hwm⟩ : ∃ W, setMv wd w.heap.size v = W := ⟨_, rfl⟩
          rw [hwm] at HF hB hX hY hqm hHeld ⊢
          clear hwm HE
          try simp only [pa, pb, pc, Act.put, pe, pf, pg]
          have r0 := hY.c0; have r1 := hY.c1; have r2 := hY.c2; have r3 := hY.c3; have r4 := hY.c4
          have f0 := hY.f 0; have f1 := hY.f 1; have f2 := hY.f 2; have f3 := hY.f 3; have f4 := hY.f 4
          have hqf : (setFive wm (w.heap.size + 1) a bi r' s' c9).cell? ⟨B, 0, none⟩ = some (.int .i64 v.id) ∧ (setFive wm (w.heap.size + 1) a bi r' s' c9).cell? ⟨B, 1, none⟩ = some (.slice v.no v.n.length v.nc) ∧ (setFive wm (w.heap.size + 1) a bi r' s' c9).cell? ⟨B, 2, none⟩ = some (.slice v.mo v.cs.length v.mc) ∧ (setFive wm (w.heap.size + 1) a bi r' s' c9).cell? ⟨B, 3, none⟩ = some (.slice v.eo v.e.length v.ec) ∧ (setFive wm (w.heap.size + 1) a bi r' s' c9).cell? ⟨X, 0, none⟩ = some (.int .i64 a) ∧ (setFive wm (w.heap.size + 1) a bi r' s' c9).cell? ⟨X, 1, none⟩ = some (.int .i64 bi) ∧ (setFive wm (w.heap.size + 1) a bi r' s' c9).cell? ⟨X, 2, none⟩ = some (.int .i64 r') ∧ (setFive wm (w.heap.size + 1) a bi r' s' c9).cell? ⟨X, 3, none⟩ = some (.int .i64 s') ∧ (setFive wm (w.heap.size + 1) a bi r' s' c9).cell? ⟨X, 4, none⟩ = some (.int .i64 c9) := by
            have hB2 := hB.grown (grown_setF wm (w.heap.size + 1) a bi r' s' c9) (by have := HH3.out; simp; omega)
            have hX2 := StateAt.grown hX (grown_setF wm (w.heap.size + 1) a bi r' s' c9) (by have := HH4.out; simp; omega)
            exact ⟨hB2.all.1, hB2.all.2.1, hB2.all.2.2.1, hB2.all.2.2.2, hX2.c0, hX2.c1, hX2.c2, hX2.c3, hX2.c4⟩
          refine wpAnyH_ready (rs := [3]) (by kernel_rfl) (by simp) (AllReadyH.cons rfl (fun K hK => ?_) AllReadyH.nil)
          go_simp
          refine hK.out _ (setFive wm (w.heap.size + 1) a bi r' s' c9) ?_ (fun hHeld => ?_)
          · exact hqf
          clear hK K r0 r1 r2 r3 r4 f0 f1 f2 f3 f4 hqf hB hX hY hqm hHeld
          generalize (setFive wm (w.heap.size + 1) a bi r' s' c9) = wz at HF ⊢
          try simp only [pa, pb, pc, Act.put, pe, pf, pg]
          refine wpAnyH_done (by kernel_rfl) ?_ _
          go_wp2_with fail
          obtain ⟨h1, h2, h3, h4, h5, h6⟩ := HF.out
          obtain ⟨e0, e1, e2, e3⟩ := h1.all
          have e4 := h2.c0; have e5 := h2.c1; have e6 := h2.c2; have e7 := h2.c3; have e8 := h2.c4
          exact bodyPost_ret (v := .tuple #[mvVal v, .agg #[.int .i64 a, .int .i64 bi, .int .i64 r', .int .i64 s', .int .i64 c9]]) (by simp [mvVal, results, Tryz.results68, go_sem, e0, e1, e2, e3, e4, e5, e6, e7, e8]) rfl ⟨v, a, bi, r', s', c9, rfl, h3, h4, h5, h6⟩
        · go_simp
          refine (next_any _ _ _ HD13.out.d.s (by omega)).mono ?_
          rintro e wx13 ⟨z, rfl, z0, zx, -, hs, gg⟩
          have HA13 := Lib.hid (HD13.out.next hs gg)
          clear hs gg hq HD13 x4
          have hq := HA13.out.d.box.all.1
          have hzu : z ≤ 64 := by have := zx (by omega); omega
          have hzw : IntKind.u64.wrap z = z := by rw [IntKind.wrap_u64]; omega
          obtain ⟨dz, hdz⟩ : ∃ d, IntKind.i64.wrap (1 * 2 ^ z.toNat) = d := ⟨_, rfl⟩
          have hdy : IntKind.i64.wrap (2 ^ z.toNat) = dz := by rw [← hdz, Int.one_mul]
          obtain ⟨c9, hc9⟩ : ∃ c, bits .xor .i64 c8 dz = c := ⟨_, rfl⟩
          go_wp2_with fail
          refine hK.out _ _ ?_ (fun hHeld => ?_)
          · exact hq
          clear hK K
          try simp only [pa, pb, pc, Act.put, pe, pf, pg]
          refine tk (i := 4) (v := ?_) rfl (Or.inl ⟨by rfl, ?_⟩) (by assumption) ?_
          rotate_left
          · (intro w hSw; (try dsimp only at hSw); go_simp; (try with_reducible rfl))
          try simp only [pa, pb, pc, Act.put, pe, pf, pg]
          refine tk (i := 5) (v := ?_) rfl (Or.inl ⟨by rfl, ?_⟩) (by assumption) ?_
          rotate_left
          · (intro w hSw; (try dsimp only at hSw); go_simp; (try with_reducible rfl))
          try simp only [pa, pb, pc, Act.put, pe, pf, pg]
          have x4 := HA13.out.st.c4
          refine wpAnyH_ready (rs := [1]) (by kernel_rfl) (by simp) (AllReadyH.cons rfl (fun K hK => ?_) AllReadyH.nil)
          go_simp
          refine hK.out _ _ ?_ (fun hHeld => ?_)
          · exact hq
          clear hK K
          try simp only [pa, pb, pc, Act.put, pe, pf, pg]
          clear x4
          refine tk (i := 6) (v := ?_) rfl (Or.inl ⟨by rfl, ?_⟩) (by assumption) ?_
          rotate_left
          · (intro w hSw; (try dsimp only at hSw); go_simp; (try with_reducible rfl))
          try simp only [pa, pb, pc, Act.put, pe, pf, pg]
          refine tk (i := 7) (v := ?_) rfl (Or.inl ⟨by rfl, ?_⟩) (by assumption) ?_
          rotate_left
          · (intro w hSw; (try dsimp only at hSw); go_simp; (try with_reducible rfl))
          try simp only [pa, pb, pc, Act.put, pe, pf, pg]
          have HE13 := Lib.hid (HA13.out.set4 c9)
          have hqs := HE13.out.d.box.all.1
          have x4 := HA13.out.st.c4; have f4 := HA13.out.st.f 4
          refine wpAnyH_ready (rs := [8]) (by kernel_rfl) (by simp) (AllReadyH.cons rfl (fun K hK => ?_) AllReadyH.nil)
          go_simp
          refine hK.out _ _ ?_ (fun hHeld => ?_)
          · exact hqs
          clear hK K hq hqs x4 f4 HA13 hHeld
          generalize wx13.setCell ⟨X, 4, none⟩ (.int .i64 c9) = wi at HE13 ⊢
          try simp only [pa, pb, pc, Act.put, pe, pf, pg]
          refine wpAnyH_done (by kernel_rfl) ?_ _
          go_upto_region 14 with fail
          have HE := Lib.hid (HE13.out.call (Below.drew (Below.refl _ _)))
          have hq : wi.drew.cell? ⟨B, 0, none⟩ = some (.int .i64 v.id) ∧ wi.drew.cell? ⟨B, 1, none⟩ = some (.slice v.no v.n.length v.nc) ∧ wi.drew.cell? ⟨B, 2, none⟩ = some (.slice v.mo v.cs.length v.mc) ∧ wi.drew.cell? ⟨B, 3, none⟩ = some (.slice v.eo v.e.length v.ec) ∧ wi.drew.cell? ⟨X, 0, none⟩ = some (.int .i64 a) ∧ wi.drew.cell? ⟨X, 1, none⟩ = some (.int .i64 bi) ∧ wi.drew.cell? ⟨X, 2, none⟩ = some (.int .i64 r') ∧ wi.drew.cell? ⟨X, 3, none⟩ = some (.int .i64 s') ∧ wi.drew.cell? ⟨X, 4, none⟩ = some (.int .i64 c9) := ⟨HE.out.d.box.all.1, HE.out.d.box.all.2.1, HE.out.d.box.all.2.2.1, HE.out.d.box.all.2.2.2, HE.out.st.c0, HE.out.st.c1, HE.out.st.c2, HE.out.st.c3, HE.out.st.c4⟩
          clear HE13
          refine wp_region_held_drew (S := fun w' => w'.cell? ⟨B, 0, none⟩ = some (.int .i64 v.id) ∧ w'.cell? ⟨B, 1, none⟩ = some (.slice v.no v.n.length v.nc) ∧ w'.cell? ⟨B, 2, none⟩ = some (.slice v.mo v.cs.length v.mc) ∧ w'.cell? ⟨B, 3, none⟩ = some (.slice v.eo v.e.length v.ec) ∧ w'.cell? ⟨X, 0, none⟩ = some (.int .i64 a) ∧ w'.cell? ⟨X, 1, none⟩ = some (.int .i64 bi) ∧ w'.cell? ⟨X, 2, none⟩ = some (.int .i64 r') ∧ w'.cell? ⟨X, 3, none⟩ = some (.int .i64 s') ∧ w'.cell? ⟨X, 4, none⟩ = some (.int .i64 c9)) (by kernel_rfl) (hq) (fun hHeld => ?_)
          generalize wi.drew = wd at HE hq hHeld ⊢
          refine tk (i := 0) (v := ?_) rfl (Or.inl ⟨by rfl, ?_⟩) (by assumption) ?_
          rotate_left
          · (intro w hSw; (try dsimp only at hSw); go_simp; (try with_reducible rfl))
          try simp only [pa, pb, pc, Act.put, pe, pf, pg]
          refine tk (i := 1) (v := ?_) rfl (Or.inl ⟨by rfl, ?_⟩) (by assumption) ?_
          rotate_left
          · (intro w hSw; (try dsimp only at hSw); go_simp; (try with_reducible rfl))
          try simp only [pa, pb, pc, Act.put, pe, pf, pg]
          have HF := Lib.hid HE.out.fin
          have hr0 := HE.out.d.ret1.all
          dsimp only [Mv.zero, List.length_nil] at hr0
          obtain ⟨r0, r1, r2, r3⟩ := hr0
          have f0 := HE.out.d.ret1.f 0; have f1 := HE.out.d.ret1.f 1; have f2 := HE.out.d.ret1.f 2; have f3 := HE.out.d.ret1.f 3
          have h1 : B ≠ w.heap.size := by have := HE.out.d.bl; omega
          have h2 : X ≠ w.heap.size := by have := HE.out.d.bl; have := HE.out.xb; omega
          have h3 : B ≠ w.heap.size + 1 := by have := HE.out.d.bl; omega
          have h4 : X ≠ w.heap.size + 1 := by have := HE.out.d.bl; have := HE.out.xb; omega
          have HH3 := Lib.hid h3; have HH4 := Lib.hid h4
          clear h3 h4
          have hB := HE.out.d.box.grown (grown_setMv wd w.heap.size v) (by simp; omega)
          have hX := StateAt.grown HE.out.st (grown_setMv wd w.heap.size v) (by simp; omega)
          have hY := StateAt.grown HE.out.d.ret2 (grown_setMv wd w.heap.size v) (by simp)
          have hqm : (setMv wd w.heap.size v).cell? ⟨B, 0, none⟩ = some (.int .i64 v.id) ∧ (setMv wd w.heap.size v).cell? ⟨B, 1, none⟩ = some (.slice v.no v.n.length v.nc) ∧ (setMv wd w.heap.size v).cell? ⟨B, 2, none⟩ = some (.slice v.mo v.cs.length v.mc) ∧ (setMv wd w.heap.size v).cell? ⟨B, 3, none⟩ = some (.slice v.eo v.e.length v.ec) ∧ (setMv wd w.heap.size v).cell? ⟨X, 0, none⟩ = some (.int .i64 a) ∧ (setMv wd w.heap.size v).cell? ⟨X, 1, none⟩ = some (.int .i64 bi) ∧ (setMv wd w.heap.size v).cell? ⟨X, 2, none⟩ = some (.int .i64 r') ∧ (setMv wd w.heap.size v).cell? ⟨X, 3, none⟩ = some (.int .i64 s') ∧ (setMv wd w.heap.size v).cell? ⟨X, 4, none⟩ = some (.int .i64 c9) := ⟨hB.all.1, hB.all.2.1, hB.all.2.2.1, hB.all.2.2.2, hX.c0, hX.c1, hX.c2, hX.c3, hX.c4⟩
          refine wpAnyH_ready (rs := [2]) (by kernel_rfl) (by simp) (AllReadyH.cons rfl (fun K hK => ?_) AllReadyH.nil)
          go_simp
          refine hK.out _ (setMv wd w.heap.size v) ?_ (fun hHeld => ?_)
          · exact hqm
          clear hK K r0 r1 r2 r3 f0 f1 f2 f3 hq h1 h2
          obtain ⟨wm, hwm⟩ : ∃ W, setMv wd w.heap.size v = W := ⟨_, rfl⟩
          rw [hwm] at HF hB hX hY hqm hHeld ⊢
          clear hwm HE
          try simp only [pa, pb, pc, Act.put, pe, pf, pg]
          have r0 := hY.c0; have r1 := hY.c1; have r2 := hY.c2; have r3 := hY.c3; have r4 := hY.c4
          have f0 := hY.f 0; have f1 := hY.f 1; have f2 := hY.f 2; have f3 := hY.f 3; have f4 := hY.f 4
          have hqf : (setFive wm (w.heap.size + 1) a bi r' s' c9).cell? ⟨B, 0, none⟩ = some (.int .i64 v.id) ∧ (setFive wm (w.heap.size + 1) a bi r' s' c9).cell? ⟨B, 1, none⟩ = some (.slice v.no v.n.length v.nc) ∧ (setFive wm (w.heap.size + 1) a bi r' s' c9).cell? ⟨B, 2, none⟩ = some (.slice v.mo v.cs.length v.mc) ∧ (setFive wm (w.heap.size + 1) a bi r' s' c9).cell? ⟨B, 3, none⟩ = some (.slice v.eo v.e.length v.ec) ∧ (setFive wm (w.heap.size + 1) a bi r' s' c9).cell? ⟨X, 0, none⟩ = some (.int .i64 a) ∧ (setFive wm (w.heap.size + 1) a bi r' s' c9).cell? ⟨X, 1, none⟩ = some (.int .i64 bi) ∧ (setFive wm (w.heap.size + 1) a bi r' s' c9).cell? ⟨X, 2, none⟩ = some (.int .i64 r') ∧ (setFive wm (w.heap.size + 1) a bi r' s' c9).cell? ⟨X, 3, none⟩ = some (.int .i64 s') ∧ (setFive wm (w.heap.size + 1) a bi r' s' c9).cell? ⟨X, 4, none⟩ = some (.int .i64 c9) := by
            have hB2 := hB.grown (grown_setF wm (w.heap.size + 1) a bi r' s' c9) (by have := HH3.out; simp; omega)
            have hX2 := StateAt.grown hX (grown_setF wm (w.heap.size + 1) a bi r' s' c9) (by have := HH4.out; simp; omega)
            exact ⟨hB2.all.1, hB2.all.2.1, hB2.all.2.2.1, hB2.all.2.2.2, hX2.c0, hX2.c1, hX2.c2, hX2.c3, hX2.c4⟩
          refine wpAnyH_ready (rs := [3]) (by kernel_rfl) (by simp) (AllReadyH.cons rfl (fun K hK => ?_) AllReadyH.nil)
          go_simp
          refine hK.out _ (setFive wm (w.heap.size + 1) a bi r' s' c9) ?_ (fun hHeld => ?_)
          · exact hqf
          clear hK K r0 r1 r2 r3 r4 f0 f1 f2 f3 f4 hqf hB hX hY hqm hHeld
          generalize (setFive wm (w.heap.size + 1) a bi r' s' c9) = wz at HF ⊢
          try simp only [pa, pb, pc, Act.put, pe, pf, pg]
          refine wpAnyH_done (by kernel_rfl) ?_ _
          go_wp2_with fail
          obtain ⟨h1, h2, h3, h4, h5, h6⟩ := HF.out
          obtain ⟨e0, e1, e2, e3⟩ := h1.all
          have e4 := h2.c0; have e5 := h2.c1; have e6 := h2.c2; have e7 := h2.c3; have e8 := h2.c4
          exact bodyPost_ret (v := .tuple #[mvVal v, .agg #[.int .i64 a, .int .i64 bi, .int .i64 r', .int .i64 s', .int .i64 c9]]) (by simp [mvVal, results, Tryz.results68, go_sem, e0, e1, e2, e3, e4, e5, e6, e7, e8]) rfl ⟨v, a, bi, r', s', c9, rfl, h3, h4, h5, h6⟩
      · have hy3b : (y3 == 0) = false := by simp [hy3]
        clear hy3
        go_upto_region 14 with fail
        have HE := Lib.hid (HH.out.call (Below.drew (Below.refl _ _)))
        have hq : wh.drew.cell? ⟨B, 0, none⟩ = some (.int .i64 v.id) ∧ wh.drew.cell? ⟨B, 1, none⟩ = some (.slice v.no v.n.length v.nc) ∧ wh.drew.cell? ⟨B, 2, none⟩ = some (.slice v.mo v.cs.length v.mc) ∧ wh.drew.cell? ⟨B, 3, none⟩ = some (.slice v.eo v.e.length v.ec) ∧ wh.drew.cell? ⟨X, 0, none⟩ = some (.int .i64 a) ∧ wh.drew.cell? ⟨X, 1, none⟩ = some (.int .i64 bi) ∧ wh.drew.cell? ⟨X, 2, none⟩ = some (.int .i64 r') ∧ wh.drew.cell? ⟨X, 3, none⟩ = some (.int .i64 s') ∧ wh.drew.cell? ⟨X, 4, none⟩ = some (.int .i64 c8) := ⟨HE.out.d.box.all.1, HE.out.d.box.all.2.1, HE.out.d.box.all.2.2.1, HE.out.d.box.all.2.2.2, HE.out.st.c0, HE.out.st.c1, HE.out.st.c2, HE.out.st.c3, HE.out.st.c4⟩
        clear HH
        refine wp_region_held_drew (S := fun w' => w'.cell? ⟨B, 0, none⟩ = some (.int .i64 v.id) ∧ w'.cell? ⟨B, 1, none⟩ = some (.slice v.no v.n.length v.nc) ∧ w'.cell? ⟨B, 2, none⟩ = some (.slice v.mo v.cs.length v.mc) ∧ w'.cell? ⟨B, 3, none⟩ = some (.slice v.eo v.e.length v.ec) ∧ w'.cell? ⟨X, 0, none⟩ = some (.int .i64 a) ∧ w'.cell? ⟨X, 1, none⟩ = some (.int .i64 bi) ∧ w'.cell? ⟨X, 2, none⟩ = some (.int .i64 r') ∧ w'.cell? ⟨X, 3, none⟩ = some (.int .i64 s') ∧ w'.cell? ⟨X, 4, none⟩ = some (.int .i64 c8)) (by kernel_rfl) (hq) (fun hHeld => ?_)
        generalize wh.drew = wd at HE hq hHeld ⊢
        refine tk (i := 0) (v := ?_) rfl (Or.inl ⟨by rfl, ?_⟩) (by assumption) ?_
        rotate_left
        · (intro w hSw; (try dsimp only at hSw); go_simp; (try with_reducible rfl))
        try simp only [pa, pb, pc, Act.put, pe, pf, pg]
        refine tk (i := 1) (v := ?_) rfl (Or.inl ⟨by rfl, ?_⟩) (by assumption) ?_
        rotate_left
        · (intro w hSw; (try dsimp only at hSw); go_simp; (try with_reducible rfl))
        try simp only [pa, pb, pc, Act.put, pe, pf, pg]
        have HF := Lib.hid HE.out.fin
        have hr0 := HE.out.d.ret1.all
        dsimp only [Mv.zero, List.length_nil] at hr0
        obtain ⟨r0, r1, r2, r3⟩ := hr0
        have f0 := HE.out.d.ret1.f 0; have f1 := HE.out.d.ret1.f 1; have f2 := HE.out.d.ret1.f 2; have f3 := HE.out.d.ret1.f 3
        have h1 : B ≠ w.heap.size := by have := HE.out.d.bl; omega
        have h2 : X ≠ w.heap.size := by have := HE.out.d.bl; have := HE.out.xb; omega
        have h3 : B ≠ w.heap.size + 1 := by have := HE.out.d.bl; omega
        have h4 : X ≠ w.heap.size + 1 := by have := HE.out.d.bl; have := HE.out.xb; omega
        have HH3 := Lib.hid h3; have HH4 := Lib.hid h4
        clear h3 h4
        have hB := HE.out.d.box.grown (grown_setMv wd w.heap.size v) (by simp; omega)
        have hX := StateAt.grown HE.out.st (grown_setMv wd w.heap.size v) (by simp; omega)
        have hY := StateAt.grown HE.out.d.ret2 (grown_setMv wd w.heap.size v) (by simp)
        have hqm : (setMv wd w.heap.size v).cell? ⟨B, 0, none⟩ = some (.int .i64 v.id) ∧ (setMv wd w.heap.size v).cell? ⟨B, 1, none⟩ = some (.slice v.no v.n.length v.nc) ∧ (setMv wd w.heap.size v).cell? ⟨B, 2, none⟩ = some (.slice v.mo v.cs.length v.mc) ∧ (setMv wd w.heap.size v).cell? ⟨B, 3, none⟩ = some (.slice v.eo v.e.length v.ec) ∧ (setMv wd w.heap.size v).cell? ⟨X, 0, none⟩ = some (.int .i64 a) ∧ (setMv wd w.heap.size v).cell? ⟨X, 1, none⟩ = some (.int .i64 bi) ∧ (setMv wd w.heap.size v).cell? ⟨X, 2, none⟩ = some (.int .i64 r') ∧ (setMv wd w.heap.size v).cell? ⟨X, 3, none⟩ = some (.int .i64 s') ∧ (setMv wd w.heap.size v).cell? ⟨X, 4, none⟩ = some (.int .i64 c8) := ⟨hB.all.1, hB.all.2.1, hB.all.2.2.1, hB.all.2.2.2, hX.c0, hX.c1, hX.c2, hX.c3, hX.c4⟩
        refine wpAnyH_ready (rs := [2]) (by kernel_rfl) (by simp) (AllReadyH.cons rfl (fun K hK => ?_) AllReadyH.nil)
        go_simp
        refine hK.out _ (setMv wd w.heap.size v) ?_ (fun hHeld => ?_)
        · exact hqm
        clear hK K r0 r1 r2 r3 f0 f1 f2 f3 hq h1 h2
        obtain ⟨wm, hwm⟩ : ∃ W, setMv wd w.heap.size v = W := ⟨_, rfl⟩
        rw [hwm] at HF hB hX hY hqm hHeld ⊢
        clear hwm HE
        try simp only [pa, pb, pc, Act.put, pe, pf, pg]
        have r0 := hY.c0; have r1 := hY.c1; have r2 := hY.c2; have r3 := hY.c3; have r4 := hY.c4
        have f0 := hY.f 0; have f1 := hY.f 1; have f2 := hY.f 2; have f3 := hY.f 3; have f4 := hY.f 4
        have hqf : (setFive wm (w.heap.size + 1) a bi r' s' c8).cell? ⟨B, 0, none⟩ = some (.int .i64 v.id) ∧ (setFive wm (w.heap.size + 1) a bi r' s' c8).cell? ⟨B, 1, none⟩ = some (.slice v.no v.n.length v.nc) ∧ (setFive wm (w.heap.size + 1) a bi r' s' c8).cell? ⟨B, 2, none⟩ = some (.slice v.mo v.cs.length v.mc) ∧ (setFive wm (w.heap.size + 1) a bi r' s' c8).cell? ⟨B, 3, none⟩ = some (.slice v.eo v.e.length v.ec) ∧ (setFive wm (w.heap.size + 1) a bi r' s' c8).cell? ⟨X, 0, none⟩ = some (.int .i64 a) ∧ (setFive wm (w.heap.size + 1) a bi r' s' c8).cell? ⟨X, 1, none⟩ = some (.int .i64 bi) ∧ (setFive wm (w.heap.size + 1) a bi r' s' c8).cell? ⟨X, 2, none⟩ = some (.int .i64 r') ∧ (setFive wm (w.heap.size + 1) a bi r' s' c8).cell? ⟨X, 3, none⟩ = some (.int .i64 s') ∧ (setFive wm (w.heap.size + 1) a bi r' s' c8).cell? ⟨X, 4, none⟩ = some (.int .i64 c8) := by
          have hB2 := hB.grown (grown_setF wm (w.heap.size + 1) a bi r' s' c8) (by have := HH3.out; simp; omega)
          have hX2 := StateAt.grown hX (grown_setF wm (w.heap.size + 1) a bi r' s' c8) (by have := HH4.out; simp; omega)
          exact ⟨hB2.all.1, hB2.all.2.1, hB2.all.2.2.1, hB2.all.2.2.2, hX2.c0, hX2.c1, hX2.c2, hX2.c3, hX2.c4⟩
        refine wpAnyH_ready (rs := [3]) (by kernel_rfl) (by simp) (AllReadyH.cons rfl (fun K hK => ?_) AllReadyH.nil)
        go_simp
        refine hK.out _ (setFive wm (w.heap.size + 1) a bi r' s' c8) ?_ (fun hHeld => ?_)
        · exact hqf
        clear hK K r0 r1 r2 r3 r4 f0 f1 f2 f3 f4 hqf hB hX hY hqm hHeld
        generalize (setFive wm (w.heap.size + 1) a bi r' s' c8) = wz at HF ⊢
        try simp only [pa, pb, pc, Act.put, pe, pf, pg]
        refine wpAnyH_done (by kernel_rfl) ?_ _
        go_wp2_with fail
        obtain ⟨h1, h2, h3, h4, h5, h6⟩ := HF.out
        obtain ⟨e0, e1, e2, e3⟩ := h1.all
        have e4 := h2.c0; have e5 := h2.c1; have e6 := h2.c2; have e7 := h2.c3; have e8 := h2.c4
        exact bodyPost_ret (v := .tuple #[mvVal v, .agg #[.int .i64 a, .int .i64 bi, .int .i64 r', .int .i64 s', .int .i64 c8]]) (by simp [mvVal, results, Tryz.results68, go_sem, e0, e1, e2, e3, e4, e5, e6, e7, e8]) rfl ⟨v, a, bi, r', s', c8, rfl, h3, h4, h5, h6⟩
    · go_simp
      refine (next_any _ _ _ HD11.out.d.s (by omega)).mono ?_
      rintro e wx11 ⟨z, rfl, z0, zx, -, hs, gg⟩
      have HA11 := Lib.hid (HD11.out.next hs gg)
      clear hs gg hq HD11 x4
      have hq := HA11.out.d.box.all.1
      obtain ⟨c8, hc8⟩ : ∃ c, bits .and .i64 A z = c := ⟨_, rfl⟩
      go_wp2_with fail
      refine hK.out _ _ ?_ (fun hHeld => ?_)
      · exact hq
      clear hK K
      try simp only [pa, pb, pc, Act.put, pe, pf, pg]
      have x4 := HA11.out.st.c4
      refine wpAnyH_ready (rs := [1]) (by kernel_rfl) (by simp) (AllReadyH.cons rfl (fun K hK => ?_) AllReadyH.nil)
      go_simp
      refine hK.out _ _ ?_ (fun hHeld => ?_)
      · exact hq
      clear hK K
      try simp only [pa, pb, pc, Act.put, pe, pf, pg]
      clear x4
      refine tk (i := 4) (v := ?_) rfl (Or.inl ⟨by rfl, ?_⟩) (by assumption) ?_
      rotate_left
      · (intro w hSw; (try dsimp only at hSw); go_simp; (try with_reducible rfl))
      try simp only [pa, pb, pc, Act.put, pe, pf, pg]
      refine tk (i := 5) (v := ?_) rfl (Or.inl ⟨by rfl, ?_⟩) (by assumption) ?_
      rotate_left
      · (intro w hSw; (try dsimp only at hSw); go_simp; (try with_reducible rfl))
      try simp only [pa, pb, pc, Act.put, pe, pf, pg]
      have HE11 := Lib.hid (HA11.out.set4 c8)
      have hqs := HE11.out.d.box.all.1
      have x4 := HA11.out.st.c4; have f4 := HA11.out.st.f 4
      refine wpAnyH_ready (rs := [6]) (by kernel_rfl) (by simp) (AllReadyH.cons rfl (fun K hK => ?_) AllReadyH.nil)
      go_simp
      refine hK.out _ _ ?_ (fun hHeld => ?_)
      · exact hqs
      clear hK K hq hqs x4 f4 HA11 hHeld
      generalize wx11.setCell ⟨X, 4, none⟩ (.int .i64 c8) = wk at HE11 ⊢
      try simp only [pa, pb, pc, Act.put, pe, pf, pg]
      refine wpAnyH_done (by kernel_rfl) ?_ _
      go_wp2_with fail
      refine (next_any _ _ _ HE11.out.d.s (by omega)).mono ?_
      rintro e wh ⟨y3, rfl, -, -, -, hs, gg⟩
      have HH := Lib.hid (HE11.out.next hs gg)
      clear hs gg HE11
      by_cases hy3 : y3 = 0
      · subst hy3
        go_upto_region 13 with fail
        have HD13 := Lib.hid (HH.out.call (Below.drew (Below.refl _ _)))
        clear HH
        have hq := HD13.out.d.box.all.1
        refine wp_region_held_drew (S := fun w' => w'.cell? ⟨B, 0, none⟩ = some (.int .i64 v.id)) (by kernel_rfl) (hq) (fun hHeld => ?_)
        generalize wh.drew = wd at HD13 hq hHeld ⊢
        refine tk (i := 0) (v := ?_) rfl (Or.inl ⟨by rfl, ?_⟩) (by assumption) ?_
        rotate_left
        · (intro w hSw; (try dsimp only at hSw); go_simp; (try with_reducible rfl))
        try simp only [pa, pb, pc, Act.put, pe, pf, pg]
        refine tk (i := 2) (v := ?_) rfl (Or.inl ⟨by rfl, ?_⟩) (by assumption) ?_
        rotate_left
        · (intro w hSw; (try dsimp only at hSw); go_simp; (try with_reducible rfl))
        try simp only [pa, pb, pc, Act.put, pe, pf, pg]
        have x4 := HD13.out.st.c4
        refine wpAnyH_ready (rs := [1, 3]) (by kernel_rfl) (by simp) (AllReadyH.cons rfl (fun K hK => ?_) (AllReadyH.cons rfl (fun K hK => ?_) AllReadyH.nil))
        · go_simp
          refine hK.out _ _ ?_ (fun hHeld => ?_)
          · exact hq
          clear hK K
          try simp only [pa, pb, pc, Act.put, pe, pf, pg]
          refine wpAnyH_ready (rs := [3]) (by kernel_rfl) (by simp) (AllReadyH.cons rfl (fun K hK => ?_) AllReadyH.nil)
          go_simp
          refine (next_any _ _ _ HD13.out.d.s (by omega)).mono ?_
          rintro e wx13 ⟨z, rfl, z0, zx, -, hs, gg⟩
          have HA13 := Lib.hid (HD13.out.next hs gg)
          clear hs gg hq HD13 x4
          have hq := HA13.out.d.box.all.1
          have hzu : z ≤ 64 := by have := zx (by omega); omega
          have hzw : IntKind.u64.wrap z = z := by rw [IntKind.wrap_u64]; omega
          obtain ⟨dz, hdz⟩ : ∃ d, IntKind.i64.wrap (1 * 2 ^ z.toNat) = d := ⟨_, rfl⟩
          have hdy : IntKind.i64.wrap (2 ^ z.toNat) = dz := by rw [← hdz, Int.one_mul]
          obtain ⟨c9, hc9⟩ : ∃ c, bits .xor .i64 c8 dz = c := ⟨_, rfl⟩
          go_wp2_with fail
          refine hK.out _ _ ?_ (fun hHeld => ?_)
          · exact hq
          clear hK K
          try simp only [pa, pb, pc, Act.put, pe, pf, pg]
          refine tk (i := 4) (v := ?_) rfl (Or.inl ⟨by rfl, ?_⟩) (by assumption) ?_
          rotate_left
          · (intro w hSw; (try dsimp only at hSw); go_simp; (try with_reducible rfl))
          try simp only [pa, pb, pc, Act.put, pe, pf, pg]
          refine tk (i := 5) (v := ?_) rfl (Or.inl ⟨by rfl, ?_⟩) (by assumption) ?_
          rotate_left
          · (intro w hSw; (try dsimp only at hSw); go_simp; (try with_reducible rfl))
          try simp only [pa, pb, pc, Act.put, pe, pf, pg]
          refine tk (i := 6) (v := ?_) rfl (Or.inl ⟨by rfl, ?_⟩) (by assumption) ?_
          rotate_left
          · (intro w hSw; (try dsimp only at hSw); go_simp; (try with_reducible rfl))
          try simp only [pa, pb, pc, Act.put, pe, pf, pg]
          refine tk (i := 7) (v := ?_) rfl (Or.inl ⟨by rfl, ?_⟩) (by assumption) ?_
          rotate_left
          · (intro w hSw; (try dsimp only at hSw); go_simp; (try with_reducible rfl))
          try simp only [pa, pb, pc, Act.put, pe, pf, pg]
          have HE13 := Lib.hid (HA13.out.set4 c9)
          have hqs := HE13.out.d.box.all.1
          have x4 := HA13.out.st.c4; have f4 := HA13.out.st.f 4
          refine wpAnyH_ready (rs := [8]) (by kernel_rfl) (by simp) (AllReadyH.cons rfl (fun K hK => ?_) AllReadyH.nil)
          go_simp
          refine hK.out _ _ ?_ (fun hHeld => ?_)
          · exact hqs
          clear hK K hq hqs x4 f4 HA13 hHeld
          generalize wx13.setCell ⟨X, 4, none⟩ (.int .i64 c9) = wi at HE13 ⊢
          try simp only [pa, pb, pc, Act.put, pe, pf, pg]
          refine wpAnyH_done (by kernel_rfl) ?_ _
          go_upto_region 14 with fail
          have HE := Lib.hid (HE13.out.call (Below.drew (Below.refl _ _)))
          have hq : wi.drew.cell? ⟨B, 0, none⟩ = some (.int .i64 v.id) ∧ wi.drew.cell? ⟨B, 1, none⟩ = some (.slice v.no v.n.length v.nc) ∧ wi.drew.cell? ⟨B, 2, none⟩ = some (.slice v.mo v.cs.length v.mc) ∧ wi.drew.cell? ⟨B, 3, none⟩ = some (.slice v.eo v.e.length v.ec) ∧ wi.drew.cell? ⟨X, 0, none⟩ = some (.int .i64 a) ∧ wi.drew.cell? ⟨X, 1, none⟩ = some (.int .i64 bi) ∧ wi.drew.cell? ⟨X, 2, none⟩ = some (.int .i64 r') ∧ wi.drew.cell? ⟨X, 3, none⟩ = some (.int .i64 s') ∧ wi.drew.cell? ⟨X, 4, none⟩ = some (.int .i64 c9) := ⟨HE.out.d.box.all.1, HE.out.d.box.all.2.1, HE.out.d.box.all.2.2.1, HE.out.d.box.all.2.2.2, HE.out.st.c0, HE.out.st.c1, HE.out.st.c2, HE.out.st.c3, HE.out.st.c4⟩
          clear HE13
          refine wp_region_held_drew (S := fun w' => w'.cell? ⟨B, 0, none⟩ = some (.int .i64 v.id) ∧ w'.cell? ⟨B, 1, none⟩ = some (.slice v.no v.n.length v.nc) ∧ w'.cell? ⟨B, 2, none⟩ = some (.slice v.mo v.cs.length v.mc) ∧ w'.cell? ⟨B, 3, none⟩ = some (.slice v.eo v.e.length v.ec) ∧ w'.cell? ⟨X, 0, none⟩ = some (.int .i64 a) ∧ w'.cell? ⟨X, 1, none⟩ = some (.int .i64 bi) ∧ w'.cell? ⟨X, 2, none⟩ = some (.int .i64 r') ∧ w'.cell? ⟨X, 3, none⟩ = some (.int .i64 s') ∧ w'.cell? ⟨X, 4, none⟩ = some (.int .i64 c9)) (by kernel_rfl) (hq) (fun hHeld => ?_)
          generalize wi.drew = wd at HE hq hHeld ⊢
          refine tk (i := 0) (v := ?_) rfl (Or.inl ⟨by rfl, ?_⟩) (by assumption) ?_
          rotate_left
          · (intro w hSw; (try dsimp only at hSw); go_simp; (try with_reducible rfl))
          try simp only [pa, pb, pc, Act.put, pe, pf, pg]
          refine tk (i := 1) (v := ?_) rfl (Or.inl ⟨by rfl, ?_⟩) (by assumption) ?_
          rotate_left
          · (intro w hSw; (try dsimp only at hSw); go_simp; (try with_reducible rfl))
          try simp only [pa, pb, pc, Act.put, pe, pf, pg]
          have HF := Lib.hid HE.out.fin
          have hr0 := HE.out.d.ret1.all
          dsimp only [Mv.zero, List.length_nil] at hr0
          obtain ⟨r0, r1, r2, r3⟩ := hr0
          have f0 := HE.out.d.ret1.f 0; have f1 := HE.out.d.ret1.f 1; have f2 := HE.out.d.ret1.f 2; have f3 := HE.out.d.ret1.f 3
          have h1 : B ≠ w.heap.size := by have := HE.out.d.bl; omega
          have h2 : X ≠ w.heap.size := by have := HE.out.d.bl; have := HE.out.xb; omega
          have h3 : B ≠ w.heap.size + 1 := by have := HE.out.d.bl; omega
          have h4 : X ≠ w.heap.size + 1 := by have := HE.out.d.bl; have := HE.out.xb; omega
          have HH3 := Lib.hid h3; have HH4 := Lib.hid h4
          clear h3 h4
          have hB := HE.out.d.box.grown (grown_setMv wd w.heap.size v) (by simp; omega)
          have hX := StateAt.grown HE.out.st (grown_setMv wd w.heap.size v) (by simp; omega)
          have hY := StateAt.grown HE.out.d.ret2 (grown_setMv wd w.heap.size v) (by simp)
          have hqm : (setMv wd w.heap.size v).cell? ⟨B, 0, none⟩ = some (.int .i64 v.id) ∧ (setMv wd w.heap.size v).cell? ⟨B, 1, none⟩ = some (.slice v.no v.n.length v.nc) ∧ (setMv wd w.heap.size v).cell? ⟨B, 2, none⟩ = some (.slice v.mo v.cs.length v.mc) ∧ (setMv wd w.heap.size v).cell? ⟨B, 3, none⟩ = some (.slice v.eo v.e.length v.ec) ∧ (setMv wd w.heap.size v).cell? ⟨X, 0, none⟩ = some (.int .i64 a) ∧ (setMv wd w.heap.size v).cell? ⟨X, 1, none⟩ = some (.int .i64 bi) ∧ (setMv wd w.heap.size v).cell? ⟨X, 2, none⟩ = some (.int .i64 r') ∧ (setMv wd w.heap.size v).cell? ⟨X, 3, none⟩ = some (.int .i64 s') ∧ (setMv wd w.heap.size v).cell? ⟨X, 4, none⟩ = some (.int .i64 c9) := ⟨hB.all.1, hB.all.2.1, hB.all.2.2.1, hB.all.2.2.2, hX.c0, hX.c1, hX.c2, hX.c3, hX.c4⟩
          refine wpAnyH_ready (rs := [2]) (by kernel_rfl) (by simp) (AllReadyH.cons rfl (fun K hK => ?_) AllReadyH.nil)
          go_simp
          refine hK.out _ (setMv wd w.heap.size v) ?_ (fun hHeld => ?_)
          · exact hqm
          clear hK K r0 r1 r2 r3 f0 f1 f2 f3 hq h1 h2
          obtain ⟨wm, hwm⟩ : ∃ W, setMv wd w.heap.size v = W := ⟨_, rfl⟩
          rw [hwm] at HF hB hX hY hqm hHeld ⊢
          clear hwm HE
          try simp only [pa, pb, pc, Act.put, pe, pf, pg]
          have r0 := hY.c0; have r1 := hY.c1; have r2 := hY.c2; have r3 := hY.c3; have r4 := hY.c4
          have f0 := hY.f 0; have f1 := hY.f 1; have f2 := hY.f 2; have f3 := hY.f 3; have f4 := hY.f 4
          have hqf : (setFive wm (w.heap.size + 1) a bi r' s' c9).cell? ⟨B, 0, none⟩ = some (.int .i64 v.id) ∧ (setFive wm (w.heap.size + 1) a bi r' s' c9).cell? ⟨B, 1, none⟩ = some (.slice v.no v.n.length v.nc) ∧ (setFive wm (w.heap.size + 1) a bi r' s' c9).cell? ⟨B, 2, none⟩ = some (.slice v.mo v.cs.length v.mc) ∧ (setFive wm (w.heap.size + 1) a bi r' s' c9).cell? ⟨B, 3, none⟩ = some (.slice v.eo v.e.length v.ec) ∧ (setFive wm (w.heap.size + 1) a bi r' s' c9).cell? ⟨X, 0, none⟩ = some (.int .i64 a) ∧ (setFive wm (w.heap.size + 1) a bi r' s' c9).cell? ⟨X, 1, none⟩ = some (.int .i64 bi) ∧ (setFive wm (w.heap.size + 1) a bi r' s' c9).cell? ⟨X, 2, none⟩ = some (.int .i64 r') ∧ (setFive wm (w.heap.size + 1) a bi r' s' c9).cell? ⟨X, 3, none⟩ = some (.int .i64 s') ∧ (setFive wm (w.heap.size + 1) a bi r' s' c9).cell? ⟨X, 4, none⟩ = some (.int .i64 c9) := by
            have hB2 := hB.grown (grown_setF wm (w.heap.size + 1) a bi r' s' c9) (by have := HH3.out; simp; omega)
            have hX2 := StateAt.grown hX (grown_setF wm (w.heap.size + 1) a bi r' s' c9) (by have := HH4.out; simp; omega)
            exact ⟨hB2.all.1, hB2.all.2.1, hB2.all.2.2.1, hB2.all.2.2.2, hX2.c0, hX2.c1, hX2.c2, hX2.c3, hX2.c4⟩
          refine wpAnyH_ready (rs := [3]) (by kernel_rfl) (by simp) (AllReadyH.cons rfl (fun K hK => ?_) AllReadyH.nil)
          go_simp
          refine hK.out _ (setFive wm (w.heap.size + 1) a bi r' s' c9) ?_ (fun hHeld => ?_)
          · exact hqf
          clear hK K r0 r1 r2 r3 r4 f0 f1 f2 f3 f4 hqf hB hX hY hqm hHeld
          generalize (setFive wm (w.heap.size + 1) a bi r' s' c9) = wz at HF ⊢
          try simp only [pa, pb, pc, Act.put, pe, pf, pg]
          refine wpAnyH_done (by kernel_rfl) ?_ _
          go_wp2_with fail
          obtain ⟨h1, h2, h3, h4, h5, h6⟩ := HF.out
          obtain ⟨e0, e1, e2, e3⟩ := h1.all
          have e4 := h2.c0; have e5 := h2.c1; have e6 := h2.c2; have e7 := h2.c3; have e8 := h2.c4
          exact bodyPost_ret (v := .tuple #[mvVal v, .agg #[.int .i64 a, .int .i64 bi, .int .i64 r', .int .i64 s', .int .i64 c9]]) (by simp [mvVal, results, Tryz.results68, go_sem, e0, e1, e2, e3, e4, e5, e6, e7, e8]) rfl ⟨v, a, bi, r', s', c9, rfl, h3, h4, h5, h6⟩
        · go_simp
          refine (next_any _ _ _ HD13.out.d.s (by omega)).mono ?_
          rintro e wx13 ⟨z, rfl, z0, zx, -, hs, gg⟩
          have HA13 := Lib.hid (HD13.out.next hs gg)
          clear hs gg hq HD13 x4
          have hq := HA13.out.d.box.all.1
          have hzu : z ≤ 64 := by have := zx (by omega); omega
          have hzw : IntKind.u64.wrap z = z := by rw [IntKind.wrap_u64]; omega
          obtain ⟨dz, hdz⟩ : ∃ d, IntKind.i64.wrap (1 * 2 ^ z.toNat) = d := ⟨_, rfl⟩
          have hdy : IntKind.i64.wrap (2 ^ z.toNat) = dz := by rw [← hdz, Int.one_mul]
          obtain ⟨c9, hc9⟩ : ∃ c, bits .xor .i64 c8 dz = c := ⟨_, rfl⟩
          go_wp2_with fail
          refine hK.out _ _ ?_ (fun hHeld => ?_)
          · exact hq
          clear hK K
          try simp only [pa, pb, pc, Act.put, pe, pf, pg]
          refine tk (i := 4) (v := ?_) rfl (Or.inl ⟨by rfl, ?_⟩) (by assumption) ?_
          rotate_left
          · (intro w hSw; (try dsimp only at hSw); go_simp; (try with_reducible rfl))
          try simp only [pa, pb, pc, Act.put, pe, pf, pg]
          refine tk (i := 5) (v := ?_) rfl (Or.inl ⟨by rfl, ?_⟩) (by assumption) ?_
          rotate_left
          · (intro w hSw; (try dsimp only at hSw); go_simp; (try with_reducible rfl))
          try simp only [pa, pb, pc, Act.put, pe, pf, pg]
          have x4 := HA13.out.st.c4
          refine wpAnyH_ready (rs := [1]) (by kernel_rfl) (by simp) (AllReadyH.cons rfl (fun K hK => ?_) AllReadyH.nil)
          go_simp
          refine hK.out _ _ ?_ (fun hHeld => ?_)
          · exact hq
          clear hK K
          try simp only [pa, pb, pc, Act.put, pe, pf, pg]
          clear x4
          refine tk (i := 6) (v := ?_) rfl (Or.inl ⟨by rfl, ?_⟩) (by assumption) ?_
          rotate_left
          · (intro w hSw; (try dsimp only at hSw); go_simp; (try with_reducible rfl))
          try simp only [pa, pb, pc, Act.put, pe, pf, pg]
          refine tk (i := 7) (v := ?_) rfl (Or.inl ⟨by rfl, ?_⟩) (by assumption) ?_
          rotate_left
          · (intro w hSw; (try dsimp only at hSw); go_simp; (try with_reducible rfl))
          try simp only [pa, pb, pc, Act.put, pe, pf, pg]
          have HE13 := Lib.hid (HA13.out.set4 c9)
          have hqs := HE13.out.d.box.all.1
          have x4 := HA13.out.st.c4; have f4 := HA13.out.st.f 4
          refine wpAnyH_ready (rs := [8]) (by kernel_rfl) (by simp) (AllReadyH.cons rfl (fun K hK => ?_) AllReadyH.nil)
          go_simp
          refine hK.out _ _ ?_ (fun hHeld => ?_)
          · exact hqs
          clear hK K hq hqs x4 f4 HA13 hHeld
          generalize wx13.setCell ⟨X, 4, none⟩ (.int .i64 c9) = wi at HE13 ⊢
          try simp only [pa, pb, pc, Act.put, pe, pf, pg]
          refine wpAnyH_done (by kernel_rfl) ?_ _
          go_upto_region 14 with fail
          have HE := Lib.hid (HE13.out.call (Below.drew (Below.refl _ _)))
          have hq : wi.drew.cell? ⟨B, 0, none⟩ = some (.int .i64 v.id) ∧ wi.drew.cell? ⟨B, 1, none⟩ = some (.slice v.no v.n.length v.nc) ∧ wi.drew.cell? ⟨B, 2, none⟩ = some (.slice v.mo v.cs.length v.mc) ∧ wi.drew.cell? ⟨B, 3, none⟩ = some (.slice v.eo v.e.length v.ec) ∧ wi.drew.cell? ⟨X, 0, none⟩ = some (.int .i64 a) ∧ wi.drew.cell? ⟨X, 1, none⟩ = some (.int .i64 bi) ∧ wi.drew.cell? ⟨X, 2, none⟩ = some (.int .i64 r') ∧ wi.drew.cell? ⟨X, 3, none⟩ = some (.int .i64 s') ∧ wi.drew.cell? ⟨X, 4, none⟩ = some (.int .i64 c9) := ⟨HE.out.d.box.all.1, HE.out.d.box.all.2.1, HE.out.d.box.all.2.2.1, HE.out.d.box.all.2.2.2, HE.out.st.c0, HE.out.st.c1, HE.out.st.c2, HE.out.st.c3, HE.out.st.c4⟩
          clear HE13
          refine wp_region_held_drew (S := fun w' => w'.cell? ⟨B, 0, none⟩ = some (.int .i64 v.id) ∧ w'.cell? ⟨B, 1, none⟩ = some (.slice v.no v.n.length v.nc) ∧ w'.cell? ⟨B, 2, none⟩ = some (.slice v.mo v.cs.length v.mc) ∧ w'.cell? ⟨B, 3, none⟩ = some (.slice v.eo v.e.length v.ec) ∧ w'.cell? ⟨X, 0, none⟩ = some (.int .i64 a) ∧ w'.cell? ⟨X, 1, none⟩ = some (.int .i64 bi) ∧ w'.cell? ⟨X, 2, none⟩ = some (.int .i64 r') ∧ w'.cell? ⟨X, 3, none⟩ = some (.int .i64 s') ∧ w'.cell? ⟨X, 4, none⟩ = some (.int .i64 c9)) (by kernel_rfl) (hq) (fun hHeld => ?_)
          generalize wi.drew = wd at HE hq hHeld ⊢
          refine tk (i := 0) (v := ?_) rfl (Or.inl ⟨by rfl, ?_⟩) (by assumption) ?_
          rotate_left
          · (intro w hSw; (try dsimp only at hSw); go_simp; (try with_reducible rfl))
          try simp only [pa, pb, pc, Act.put, pe, pf, pg]
          refine tk (i := 1) (v := ?_) rfl (Or.inl ⟨by rfl, ?_⟩) (by assumption) ?_
          rotate_left
          · (intro w hSw; (try dsimp only at hSw); go_simp; (try with_reducible rfl))
          try simp only [pa, pb, pc, Act.put, pe, pf, pg]
          have HF := Lib.hid HE.out.fin
          have hr0 := HE.out.d.ret1.all
          dsimp only [Mv.zero, List.length_nil] at hr0
          obtain ⟨r0, r1, r2, r3⟩ := hr0
          have f0 := HE.out.d.ret1.f 0; have f1 := HE.out.d.ret1.f 1; have f2 := HE.out.d.ret1.f 2; have f3 := HE.out.d.ret1.f 3
          have h1 : B ≠ w.heap.size := by have := HE.out.d.bl; omega
          have h2 : X ≠ w.heap.size := by have := HE.out.d.bl; have := HE.out.xb; omega
          have h3 : B ≠ w.heap.size + 1 := by have := HE.out.d.bl; omega
          have h4 : X ≠ w.heap.size + 1 := by have := HE.out.d.bl; have := HE.out.xb; omega
          have HH3 := Lib.hid h3; have HH4 := Lib.hid h4
          clear h3 h4
          have hB := HE.out.d.box.grown (grown_setMv wd w.heap.size v) (by simp; omega)
          have hX := StateAt.grown HE.out.st (grown_setMv wd w.heap.size v) (by simp; omega)
          have hY := StateAt.grown HE.out.d.ret2 (grown_setMv wd w.heap.size v) (by simp)
          have hqm : (setMv wd w.heap.size v).cell? ⟨B, 0, none⟩ = some (.int .i64 v.id) ∧ (setMv wd w.heap.size v).cell? ⟨B, 1, none⟩ = some (.slice v.no v.n.length v.nc) ∧ (setMv wd w.heap.size v).cell? ⟨B, 2, none⟩ = some (.slice v.mo v.cs.length v.mc) ∧ (setMv wd w.heap.size v).cell? ⟨B, 3, none⟩ = some (.slice v.eo v.e.length v.ec) ∧ (setMv wd w.heap.size v).cell? ⟨X, 0, none⟩ = some (.int .i64 a) ∧ (setMv wd w.heap.size v).cell? ⟨X, 1, none⟩ = some (.int .i64 bi) ∧ (setMv wd w.heap.size v).cell? ⟨X, 2, none⟩ = some (.int .i64 r') ∧ (setMv wd w.heap.size v).cell? ⟨X, 3, none⟩ = some (.int .i64 s') ∧ (setMv wd w.heap.size v).cell? ⟨X, 4, none⟩ = some (.int .i64 c9) := ⟨hB.all.1, hB.all.2.1, hB.all.2.2.1, hB.all.2.2.2, hX.c0, hX.c1, hX.c2, hX.c3, hX.c4⟩
          refine wpAnyH_ready (rs := [2]) (by kernel_rfl) (by simp) (AllReadyH.cons rfl (fun K hK => ?_) AllReadyH.nil)
          go_simp
          refine hK.out _ (setMv wd w.heap.size v) ?_ (fun hHeld => ?_)
          · exact hqm
          clear hK K r0 r1 r2 r3 f0 f1 f2 f3 hq h1 h2
          obtain ⟨wm, hwm⟩ : ∃ W, setMv wd w.heap.size v = W := ⟨_, rfl⟩
          rw [hwm] at HF hB hX hY hqm hHeld ⊢
          clear hwm HE
          try simp only [pa, pb, pc, Act.put, pe, pf, pg]
          have r0 := hY.c0; have r1 := hY.c1; have r2 := hY.c2; have r3 := hY.c3; have r4 := hY.c4
          have f0 := hY.f 0; have f1 := hY.f 1; have f2 := hY.f 2; have f3 := hY.f 3; have f4 := hY.f 4
          have hqf : (setFive wm (w.heap.size + 1) a bi r' s' c9).cell? ⟨B, 0, none⟩ = some (.int .i64 v.id) ∧ (setFive wm (w.heap.size + 1) a bi r' s' c9).cell? ⟨B, 1, none⟩ = some (.slice v.no v.n.length v.nc) ∧ (setFive wm (w.heap.size + 1) a bi r' s' c9).cell? ⟨B, 2, none⟩ = some (.slice v.mo v.cs.length v.mc) ∧ (setFive wm (w.heap.size + 1) a bi r' s' c9).cell? ⟨B, 3, none⟩ = some (.slice v.eo v.e.length v.ec) ∧ (setFive wm (w.heap.size + 1) a bi r' s' c9).cell? ⟨X, 0, none⟩ = some (.int .i64 a) ∧ (setFive wm (w.heap.size + 1) a bi r' s' c9).cell? ⟨X, 1, none⟩ = some (.int .i64 bi) ∧ (setFive wm (w.heap.size + 1) a bi r' s' c9).cell? ⟨X, 2, none⟩ = some (.int .i64 r') ∧ (setFive wm (w.heap.size + 1) a bi r' s' c9).cell? ⟨X, 3, none⟩ = some (.int .i64 s') ∧ (setFive wm (w.heap.size + 1) a bi r' s' c9).cell? ⟨X, 4, none⟩ = some (.int .i64 c9) := by
            have hB2 := hB.grown (grown_setF wm (w.heap.size + 1) a bi r' s' c9) (by have := HH3.out; simp; omega)
            have hX2 := StateAt.grown hX (grown_setF wm (w.heap.size + 1) a bi r' s' c9) (by have := HH4.out; simp; omega)
            exact ⟨hB2.all.1, hB2.all.2.1, hB2.all.2.2.1, hB2.all.2.2.2, hX2.c0, hX2.c1, hX2.c2, hX2.c3, hX2.c4⟩
          refine wpAnyH_ready (rs := [3]) (by kernel_rfl) (by simp) (AllReadyH.cons rfl (fun K hK => ?_) AllReadyH.nil)
          go_simp
          refine hK.out _ (setFive wm (w.heap.size + 1) a bi r' s' c9) ?_ (fun hHeld => ?_)
          · exact hqf
          clear hK K r0 r1 r2 r3 r4 f0 f1 f2 f3 f4 hqf hB hX hY hqm hHeld
          generalize (setFive wm (w.heap.size + 1) a bi r' s' c9) = wz at HF ⊢
          try simp only [pa, pb, pc, Act.put, pe, pf, pg]
          refine wpAnyH_done (by kernel_rfl) ?_ _
          go_wp2_with fail
          obtain ⟨h1, h2, h3, h4, h5, h6⟩ := HF.out
          obtain ⟨e0, e1, e2, e3⟩ := h1.all
          have e4 := h2.c0; have e5 := h2.c1; have e6 := h2.c2; have e7 := h2.c3; have e8 := h2.c4
          exact bodyPost_ret (v := .tuple #[mvVal v, .agg #[.int .i64 a, .int .i64 bi, .int .i64 r', .int .i64 s', .int .i64 c9]]) (by simp [mvVal, results, Tryz.results68, go_sem, e0, e1, e2, e3, e4, e5, e6, e7, e8]) rfl ⟨v, a, bi, r', s', c9, rfl, h3, h4, h5, h6⟩
      · have hy3b : (y3 == 0) = false := by simp [hy3]
        clear hy3
        go_upto_region 14 with fail
        have HE := Lib.hid (HH.out.call (Below.drew (Below.refl _ _)))
        have hq : wh.drew.cell? ⟨B, 0, none⟩ = some (.int .i64 v.id) ∧ wh.drew.cell? ⟨B, 1, none⟩ = some (.slice v.no v.n.length v.nc) ∧ wh.drew.cell? ⟨B, 2, none⟩ = some (.slice v.mo v.cs.length v.mc) ∧ wh.drew.cell? ⟨B, 3, none⟩ = some (.slice v.eo v.e.length v.ec) ∧ wh.drew.cell? ⟨X, 0, none⟩ = some (.int .i64 a) ∧ wh.drew.cell? ⟨X, 1, none⟩ = some (.int .i64 bi) ∧ wh.drew.cell? ⟨X, 2, none⟩ = some (.int .i64 r') ∧ wh.drew.cell? ⟨X, 3, none⟩ = some (.int .i64 s') ∧ wh.drew.cell? ⟨X, 4, none⟩ = some (.int .i64 c8) := ⟨HE.out.d.box.all.1, HE.out.d.box.all.2.1, HE.out.d.box.all.2.2.1, HE.out.d.box.all.2.2.2, HE.out.st.c0, HE.out.st.c1, HE.out.st.c2, HE.out.st.c3, HE.out.st.c4⟩
        clear HH
        refine wp_region_held_drew (S := fun w' => w'.cell? ⟨B, 0, none⟩ = some (.int .i64 v.id) ∧ w'.cell? ⟨B, 1, none⟩ = some (.slice v.no v.n.length v.nc) ∧ w'.cell? ⟨B, 2, none⟩ = some (.slice v.mo v.cs.length v.mc) ∧ w'.cell? ⟨B, 3, none⟩ = some (.slice v.eo v.e.length v.ec) ∧ w'.cell? ⟨X, 0, none⟩ = some (.int .i64 a) ∧ w'.cell? ⟨X, 1, none⟩ = some (.int .i64 bi) ∧ w'.cell? ⟨X, 2, none⟩ = some (.int .i64 r') ∧ w'.cell? ⟨X, 3, none⟩ = some (.int .i64 s') ∧ w'.cell? ⟨X, 4, none⟩ = some (.int .i64 c8)) (by kernel_rfl) (hq) (fun hHeld => ?_)
        generalize wh.drew = wd at HE hq hHeld ⊢
        refine tk (i := 0) (v := ?_) rfl (Or.inl ⟨by rfl, ?_⟩) (by assumption) ?_
        rotate_left
        · (intro w hSw; (try dsimp only at hSw); go_simp; (try with_reducible rfl))
        try simp only [pa, pb, pc, Act.put, pe, pf, pg]
        refine tk (i := 1) (v := ?_) rfl (Or.inl ⟨by rfl, ?_⟩) (by assumption) ?_
        rotate_left
        · (intro w hSw; (try dsimp only at hSw); go_simp; (try with_reducible rfl))
        try simp only [pa, pb, pc, Act.put, pe, pf, pg]
        have HF := Lib.hid HE.out.fin
        have hr0 := HE.out.d.ret1.all
        dsimp only [Mv.zero, List.length_nil] at hr0
        obtain ⟨r0, r1, r2, r3⟩ := hr0
        have f0 := HE.out.d.ret1.f 0; have f1 := HE.out.d.ret1.f 1; have f2 := HE.out.d.ret1.f 2; have f3 := HE.out.d.ret1.f 3
        have h1 : B ≠ w.heap.size := by have := HE.out.d.bl; omega
        have h2 : X ≠ w.heap.size := by have := HE.out.d.bl; have := HE.out.xb; omega
        have h3 : B ≠ w.heap.size + 1 := by have := HE.out.d.bl; omega
        have h4 : X ≠ w.heap.size + 1 := by have := HE.out.d.bl; have := HE.out.xb; omega
        have HH3 := Lib.hid h3; have HH4 := Lib.hid h4
        clear h3 h4
        have hB := HE.out.d.box.grown (grown_setMv wd w.heap.size v) (by simp; omega)
        have hX := StateAt.grown HE.out.st (grown_setMv wd w.heap.size v) (by simp; omega)
        have hY := StateAt.grown HE.out.d.ret2 (grown_setMv wd w.heap.size v) (by simp)
        have hqm : (setMv wd w.heap.size v).cell? ⟨B, 0, none⟩ = some (.int .i64 v.id) ∧ (setMv wd w.heap.size v).cell? ⟨B, 1, none⟩ = some (.slice v.no v.n.length v.nc) ∧ (setMv wd w.heap.size v).cell? ⟨B, 2, none⟩ = some (.slice v.mo v.cs.length v.mc) ∧ (setMv wd w.heap.size v).cell? ⟨B, 3, none⟩ = some (.slice v.eo v.e.length v.ec) ∧ (setMv wd w.heap.size v).cell? ⟨X, 0, none⟩ = some (.int .i64 a) ∧ (setMv wd w.heap.size v).cell? ⟨X, 1, none⟩ = some (.int .i64 bi) ∧ (setMv wd w.heap.size v).cell? ⟨X, 2, none⟩ = some (.int .i64 r') ∧ (setMv wd w.heap.size v).cell? ⟨X, 3, none⟩ = some (.int .i64 s') ∧ (setMv wd w.heap.size v).cell? ⟨X, 4, none⟩ = some (.int .i64 c8) := ⟨hB.all.1, hB.all.2.1, hB.all.2.2.1, hB.all.2.2.2, hX.c0, hX.c1, hX.c2, hX.c3, hX.c4⟩
        refine wpAnyH_ready (rs := [2]) (by kernel_rfl) (by simp) (AllReadyH.cons rfl (fun K hK => ?_) AllReadyH.nil)
        go_simp
        refine hK.out _ (setMv wd w.heap.size v) ?_ (fun hHeld => ?_)
        · exact hqm
        clear hK K r0 r1 r2 r3 f0 f1 f2 f3 hq h1 h2
        obtain ⟨wm, hwm⟩ : ∃ W, setMv wd w.heap.size v = W := ⟨_, rfl⟩
        rw [hwm] at HF hB hX hY hqm hHeld ⊢
        clear hwm HE
        try simp only [pa, pb, pc, Act.put, pe, pf, pg]
        have r0 := hY.c0; have r1 := hY.c1; have r2 := hY.c2; have r3 := hY.c3; have r4 := hY.c4
        have f0 := hY.f 0; have f1 := hY.f 1; have f2 := hY.f 2; have f3 := hY.f 3; have f4 := hY.f 4
        have hqf : (setFive wm (w.heap.size + 1) a bi r' s' c8).cell? ⟨B, 0, none⟩ = some (.int .i64 v.id) ∧ (setFive wm (w.heap.size + 1) a bi r' s' c8).cell? ⟨B, 1, none⟩ = some (.slice v.no v.n.length v.nc) ∧ (setFive wm (w.heap.size + 1) a bi r' s' c8).cell? ⟨B, 2, none⟩ = some (.slice v.mo v.cs.length v.mc) ∧ (setFive wm (w.heap.size + 1) a bi r' s' c8).cell? ⟨B, 3, none⟩ = some (.slice v.eo v.e.length v.ec) ∧ (setFive wm (w.heap.size + 1) a bi r' s' c8).cell? ⟨X, 0, none⟩ = some (.int .i64 a) ∧ (setFive wm (w.heap.size + 1) a bi r' s' c8).cell? ⟨X, 1, none⟩ = some (.int .i64 bi) ∧ (setFive wm (w.heap.size + 1) a bi r' s' c8).cell? ⟨X, 2, none⟩ = some (.int .i64 r') ∧ (setFive wm (w.heap.size + 1) a bi r' s' c8).cell? ⟨X, 3, none⟩ = some (.int .i64 s') ∧ (setFive wm (w.heap.size + 1) a bi r' s' c8).cell? ⟨X, 4, none⟩ = some (.int .i64 c8) := by
          have hB2 := hB.grown (grown_setF wm (w.heap.size + 1) a bi r' s' c8) (by have := HH3.out; simp; omega)
          have hX2 := StateAt.grown hX (grown_setF wm (w.heap.size + 1) a bi r' s' c8) (by have := HH4.out; simp; omega)
          exact ⟨hB2.all.1, hB2.all.2.1, hB2.all.2.2.1, hB2.all.2.2.2, hX2.c0, hX2.c1, hX2.c2, hX2.c3, hX2.c4⟩
        refine wpAnyH_ready (rs := [3]) (by kernel_rfl) (by simp) (AllReadyH.cons rfl (fun K hK => ?_) AllReadyH.nil)
        go_simp
        refine hK.out _ (setFive wm (w.heap.size + 1) a bi r' s' c8) ?_ (fun hHeld => ?_)
        · exact hqf
        clear hK K r0 r1 r2 r3 r4 f0 f1 f2 f3 f4 hqf hB hX hY hqm hHeld
        generalize (setFive wm (w.heap.size + 1) a bi r' s' c8) = wz at HF ⊢
        try simp only [pa, pb, pc, Act.put, pe, pf, pg]
        refine wpAnyH_done (by kernel_rfl) ?_ _
        go_wp2_with fail
        obtain ⟨h1, h2, h3, h4, h5, h6⟩ := HF.out
        obtain ⟨e0, e1, e2, e3⟩ := h1.all
        have e4 := h2.c0; have e5 := h2.c1; have e6 := h2.c2; have e7 := h2.c3; have e8 := h2.c4
        exact bodyPost_ret (v := .tuple #[mvVal v, .agg #[.int .i64 a, .int .i64 bi, .int .i64 r', .int .i64 s', .int .i64 c8]]) (by simp [mvVal, results, Tryz.results68, go_sem, e0, e1, e2, e3, e4, e5, e6, e7, e8]) rfl ⟨v, a, bi, r', s', c8, rfl, h3, h4, h5, h6⟩
  · have hyc : (y2 == 0) = false := by simp [hy]
    clear hy
    go_wp2_with fail
    refine (next_any _ _ _ HG.out.d.s (by omega)).mono ?_
    rintro e wh ⟨y3, rfl, -, -, -, hs, gg⟩
    have HH := Lib.hid (HG.out.next hs gg)
    clear hs gg HG
    by_cases hy3 : y3 = 0
    · subst hy3
      go_upto_region 13 with fail
      have HD13 := Lib.hid (HH.out.call (Below.drew (Below.refl _ _)))
      clear HH
      have hq := HD13.out.d.box.all.1
      refine wp_region_held_drew (S := fun w' => w'.cell? ⟨B, 0, none⟩ = some (.int .i64 v.id)) (by kernel_rfl) (hq) (fun hHeld => ?_)
      generalize wh.drew = wd at HD13 hq hHeld ⊢
      refine tk (i := 0) (v := ?_) rfl (Or.inl ⟨by rfl, ?_⟩) (by assumption) ?_
      rotate_left
      · (intro w hSw; (try dsimp only at hSw); go_simp; (try with_reducible rfl))
      try simp only [pa, pb, pc, Act.put, pe, pf, pg]
      refine tk (i := 2) (v := ?_) rfl (Or.inl ⟨by rfl, ?_⟩) (by assumption) ?_
      rotate_left
      · (intro w hSw; (try dsimp only at hSw); go_simp; (try with_reducible rfl))
      try simp only [pa, pb, pc, Act.put, pe, pf, pg]
      have x4 := HD13.out.st.c4
      refine wpAnyH_ready (rs := [1, 3]) (by kernel_rfl) (by simp) (AllReadyH.cons rfl (fun K hK => ?_) (AllReadyH.cons rfl (fun K hK => ?_) AllReadyH.nil))
      · go_simp
        refine hK.out _ _ ?_ (fun hHeld => ?_)
        · exact hq
        clear hK K
        try simp only [pa, pb, pc, Act.put, pe, pf, pg]
        refine wpAnyH_ready (rs := [3]) (by kernel_rfl) (by simp) (AllReadyH.cons rfl (fun K hK => ?_) AllReadyH.nil)
        go_simp
        refine (next_any _ _ _ HD13.out.d.s (by omega)).mono ?_
        rintro e wx13 ⟨z, rfl, z0, zx, -, hs, gg⟩
        have HA13 := Lib.hid (HD13.out.next hs gg)
        clear hs gg hq HD13 x4
        have hq := HA13.out.d.box.all.1
        have hzu : z ≤ 64 := by have := zx (by omega); omega
        have hzw : IntKind.u64.wrap z = z := by rw [IntKind.wrap_u64]; omega
        obtain ⟨dz, hdz⟩ : ∃ d, IntKind.i64.wrap (1 * 2 ^ z.toNat) = d := ⟨_, rfl⟩
        have hdy : IntKind.i64.wrap (2 ^ z.toNat) = dz := by rw [← hdz, Int.one_mul]
        obtain ⟨c9, hc9⟩ : ∃ c, bits .xor .i64 A dz = c := ⟨_, rfl⟩
        go_wp2_with fail
        refine hK.out _ _ ?_ (fun hHeld => ?_)
        · exact hq
        clear hK K
        try simp only [pa, pb, pc, Act.put, pe, pf, pg]
        refine tk (i := 4) (v := ?_) rfl (Or.inl ⟨by rfl, ?_⟩) (by assumption) ?_
        rotate_left
        · (intro w hSw; (try dsimp only at hSw); go_simp; (try with_reducible rfl))
        try simp only [pa, pb, pc, Act.put, pe, pf, pg]
        refine tk (i := 5) (v := ?_) rfl (Or.inl ⟨by rfl, ?_⟩) (by assumption) ?_
        rotate_left
        · (intro w hSw; (try dsimp only at hSw); go_simp; (try with_reducible rfl))
        try simp only [pa, pb, pc, Act.put, pe, pf, pg]
        refine tk (i := 6) (v := ?_) rfl (Or.inl ⟨by rfl, ?_⟩) (by assumption) ?_
        rotate_left
        · (intro w hSw; (try dsimp only at hSw); go_simp; (try with_reducible rfl))
        try simp only [pa, pb, pc, Act.put, pe, pf, pg]
        refine tk (i := 7) (v := ?_) rfl (Or.inl ⟨by rfl, ?_⟩) (by assumption) ?_
        rotate_left
        · (intro w hSw; (try dsimp only at hSw); go_simp; (try with_reducible rfl))
        try simp only [pa, pb, pc, Act.put, pe, pf, pg]
        have HE13 := Lib.hid (HA13.out.set4 c9)
        have hqs := HE13.out.d.box.all.1
        have x4 := HA13.out.st.c4; have f4 := HA13.out.st.f 4
        refine wpAnyH_ready (rs := [8]) (by kernel_rfl) (by simp) (AllReadyH.cons rfl (fun K hK => ?_) AllReadyH.nil)
        go_simp
        refine hK.out _ _ ?_ (fun hHeld => ?_)
        · exact hqs
        clear hK K hq hqs x4 f4 HA13 hHeld
        generalize wx13.setCell ⟨X, 4, none⟩ (.int .i64 c9) = wi at HE13 ⊢
        try simp only [pa, pb, pc, Act.put, pe, pf, pg]
        refine wpAnyH_done (by kernel_rfl) ?_ _
        go_upto_region 14 with fail
        have HE := Lib.hid (HE13.out.call (Below.drew (Below.refl _ _)))
        have hq : wi.drew.cell? ⟨B, 0, none⟩ = some (.int .i64 v.id) ∧ wi.drew.cell? ⟨B, 1, none⟩ = some (.slice v.no v.n.length v.nc) ∧ wi.drew.cell? ⟨B, 2, none⟩ = some (.slice v.mo v.cs.length v.mc) ∧ wi.drew.cell? ⟨B, 3, none⟩ = some (.slice v.eo v.e.length v.ec) ∧ wi.drew.cell? ⟨X, 0, none⟩ = some (.int .i64 a) ∧ wi.drew.cell? ⟨X, 1, none⟩ = some (.int .i64 bi) ∧ wi.drew.cell? ⟨X, 2, none⟩ = some (.int .i64 r') ∧ wi.drew.cell? ⟨X, 3, none⟩ = some (.int .i64 s') ∧ wi.drew.cell? ⟨X, 4, none⟩ = some (.int .i64 c9) := ⟨HE.out.d.box.all.1, HE.out.d.box.all.2.1, HE.out.d.box.all.2.2.1, HE.out.d.box.all.2.2.2, HE.out.st.c0, HE.out.st.c1, HE.out.st.c2, HE.out.st.c3, HE.out.st.c4⟩
        clear HE13
        refine wp_region_held_drew (S := fun w' => w'.cell? ⟨B, 0, none⟩ = some (.int .i64 v.id) ∧ w'.cell? ⟨B, 1, none⟩ = some (.slice v.no v.n.length v.nc) ∧ w'.cell? ⟨B, 2, none⟩ = some (.slice v.mo v.cs.length v.mc) ∧ w'.cell? ⟨B, 3, none⟩ = some (.slice v.eo v.e.length v.ec) ∧ w'.cell? ⟨X, 0, none⟩ = some (.int .i64 a) ∧ w'.cell? ⟨X, 1, none⟩ = some (.int .i64 bi) ∧ w'.cell? ⟨X, 2, none⟩ = some (.int .i64 r') ∧ w'.cell? ⟨X, 3, none⟩ = some (.int .i64 s') ∧ w'.cell? ⟨X, 4, none⟩ = some (.int .i64 c9)) (by kernel_rfl) (hq) (fun hHeld => ?_)
        generalize wi.drew = wd at HE hq hHeld ⊢
        refine tk (i := 0) (v := ?_) rfl (Or.inl ⟨by rfl, ?_⟩) (by assumption) ?_
        rotate_left
        · (intro w hSw; (try dsimp only at hSw); go_simp; (try with_reducible rfl))
        try simp only [pa, pb, pc, Act.put, pe, pf, pg]
        refine tk (i := 1) (v := ?_) rfl (Or.inl ⟨by rfl, ?_⟩) (by assumption) ?_
        rotate_left
        · (intro w hSw; (try dsimp only at hSw); go_simp; (try with_reducible rfl))
        try simp only [pa, pb, pc, Act.put, pe, pf, pg]
        have HF := Lib.hid HE.out.fin
        have hr0 := HE.out.d.ret1.all
        dsimp only [Mv.zero, List.length_nil] at hr0
        obtain ⟨r0, r1, r2, r3⟩ := hr0
        have f0 := HE.out.d.ret1.f 0; have f1 := HE.out.d.ret1.f 1; have f2 := HE.out.d.ret1.f 2; have f3 := HE.out.d.ret1.f 3
        have h1 : B ≠ w.heap.size := by have := HE.out.d.bl; omega
        have h2 : X ≠ w.heap.size := by have := HE.out.d.bl; have := HE.out.xb; omega
        have h3 : B ≠ w.heap.size + 1 := by have := HE.out.d.bl; omega
        have h4 : X ≠ w.heap.size + 1 := by have := HE.out.d.bl; have := HE.out.xb; omega
        have HH3 := Lib.hid h3; have HH4 := Lib.hid h4
        clear h3 h4
        have hB := HE.out.d.box.grown (grown_setMv wd w.heap.size v) (by simp; omega)
        have hX := StateAt.grown HE.out.st (grown_setMv wd w.heap.size v) (by simp; omega)
        have hY := StateAt.grown HE.out.d.ret2 (grown_setMv wd w.heap.size v) (by simp)
        have hqm : (setMv wd w.heap.size v).cell? ⟨B, 0, none⟩ = some (.int .i64 v.id) ∧ (setMv wd w.heap.size v).cell? ⟨B, 1, none⟩ = some (.slice v.no v.n.length v.nc) ∧ (setMv wd w.heap.size v).cell? ⟨B, 2, none⟩ = some (.slice v.mo v.cs.length v.mc) ∧ (setMv wd w.heap.size v).cell? ⟨B, 3, none⟩ = some (.slice v.eo v.e.length v.ec) ∧ (setMv wd w.heap.size v).cell? ⟨X, 0, none⟩ = some (.int .i64 a) ∧ (setMv wd w.heap.size v).cell? ⟨X, 1, none⟩ = some (.int .i64 bi) ∧ (setMv wd w.heap.size v).cell? ⟨X, 2, none⟩ = some (.int .i64 r') ∧ (setMv wd w.heap.size v).cell? ⟨X, 3, none⟩ = some (.int .i64 s') ∧ (setMv wd w.heap.size v).cell? ⟨X, 4, none⟩ = some (.int .i64 c9) := ⟨hB.all.1, hB.all.2.1, hB.all.2.2.1, hB.all.2.2.2, hX.c0, hX.c1, hX.c2, hX.c3, hX.c4⟩
        refine wpAnyH_ready (rs := [2]) (by kernel_rfl) (by simp) (AllReadyH.cons rfl (fun K hK => ?_) AllReadyH.nil)
        go_simp
        refine hK.out _ (setMv wd w.heap.size v) ?_ (fun hHeld => ?_)
        · exact hqm
        clear hK K r0 r1 r2 r3 f0 f1 f2 f3 hq h1 h2
        obtain ⟨wm, hwm⟩ : ∃ W, setMv wd w.heap.size v = W := ⟨_, rfl⟩
        rw [hwm] at HF hB hX hY hqm hHeld ⊢
        clear hwm HE
        try simp only [pa, pb, pc, Act.put, pe, pf, pg]
        have r0 := hY.c0; have r1 := hY.c1; have r2 := hY.c2; have r3 := hY.c3; have r4 := hY.c4
        have f0 := hY.f 0; have f1 := hY.f 1; have f2 := hY.f 2; have f3 := hY.f 3; have f4 := hY.f 4
        have hqf : (setFive wm (w.heap.size + 1) a bi r' s' c9).cell? ⟨B, 0, none⟩ = some (.int .i64 v.id) ∧ (setFive wm (w.heap.size + 1) a bi r' s' c9).cell? ⟨B, 1, none⟩ = some (.slice v.no v.n.length v.nc) ∧ (setFive wm (w.heap.size + 1) a bi r' s' c9).cell? ⟨B, 2, none⟩ = some (.slice v.mo v.cs.length v.mc) ∧ (setFive wm (w.heap.size + 1) a bi r' s' c9).cell? ⟨B, 3, none⟩ = some (.slice v.eo v.e.length v.ec) ∧ (setFive wm (w.heap.size + 1) a bi r' s' c9).cell? ⟨X, 0, none⟩ = some (.int .i64 a) ∧ (setFive wm (w.heap.size + 1) a bi r' s' c9).cell? ⟨X, 1, none⟩ = some (.int .i64 bi) ∧ (setFive wm (w.heap.size + 1) a bi r' s' c9).cell? ⟨X, 2, none⟩ = some (.int .i64 r') ∧ (setFive wm (w.heap.size + 1) a bi r' s' c9).cell? ⟨X, 3, none⟩ = some (.int .i64 s') ∧ (setFive wm (w.heap.size + 1) a bi r' s' c9).cell? ⟨X, 4, none⟩ = some (.int .i64 c9) := by
          have hB2 := hB.grown (grown_setF wm (w.heap.size + 1) a bi r' s' c9) (by have := HH3.out; simp; omega)
          have hX2 := StateAt.grown hX (grown_setF wm (w.heap.size + 1) a bi r' s' c9) (by have := HH4.out; simp; omega)
          exact ⟨hB2.all.1, hB2.all.2.1, hB2.all.2.2.1, hB2.all.2.2.2, hX2.c0, hX2.c1, hX2.c2, hX2.c3, hX2.c4⟩
        refine wpAnyH_ready (rs := [3]) (by kernel_rfl) (by simp) (AllReadyH.cons rfl (fun K hK => ?_) AllReadyH.nil)
        go_simp
        refine hK.out _ (setFive wm (w.heap.size + 1) a bi r' s' c9) ?_ (fun hHeld => ?_)
        · exact hqf
        clear hK K r0 r1 r2 r3 r4 f0 f1 f2 f3 f4 hqf hB hX hY hqm hHeld
        generalize (setFive wm (w.heap.size + 1) a bi r' s' c9) = wz at HF ⊢
        try simp only [pa, pb, pc, Act.put, pe, pf, pg]
        refine wpAnyH_done (by kernel_rfl) ?_ _
        go_wp2_with fail
        obtain ⟨h1, h2, h3, h4, h5, h6⟩ := HF.out
        obtain ⟨e0, e1, e2, e3⟩ := h1.all
        have e4 := h2.c0; have e5 := h2.c1; have e6 := h2.c2; have e7 := h2.c3; have e8 := h2.c4
        exact bodyPost_ret (v := .tuple #[mvVal v, .agg #[.int .i64 a, .int .i64 bi, .int .i64 r', .int .i64 s', .int .i64 c9]]) (by simp [mvVal, results, Tryz.results68, go_sem, e0, e1, e2, e3, e4, e5, e6, e7, e8]) rfl ⟨v, a, bi, r', s', c9, rfl, h3, h4, h5, h6⟩
      · go_simp
        refine (next_any _ _ _ HD13.out.d.s (by omega)).mono ?_
        rintro e wx13 ⟨z, rfl, z0, zx, -, hs, gg⟩
        have HA13 := Lib.hid (HD13.out.next hs gg)
        clear hs gg hq HD13 x4
        have hq := HA13.out.d.box.all.1
        have hzu : z ≤ 64 := by have := zx (by omega); omega
        have hzw : IntKind.u64.wrap z = z := by rw [IntKind.wrap_u64]; omega
        obtain ⟨dz, hdz⟩ : ∃ d, IntKind.i64.wrap (1 * 2 ^ z.toNat) = d := ⟨_, rfl⟩
        have hdy : IntKind.i64.wrap (2 ^ z.toNat) = dz := by rw [← hdz, Int.one_mul]
        obtain ⟨c9, hc9⟩ : ∃ c, bits .xor .i64 A dz = c := ⟨_, rfl⟩
        go_wp2_with fail
        refine hK.out _ _ ?_ (fun hHeld => ?_)
        · exact hq
        clear hK K
        try simp only [pa, pb, pc, Act.put, pe, pf, pg]
        refine tk (i := 4) (v := ?_) rfl (Or.inl ⟨by rfl, ?_⟩) (by assumption) ?_
        rotate_left
        · (intro w hSw; (try dsimp only at hSw); go_simp; (try with_reducible rfl))
        try simp only [pa, pb, pc, Act.put, pe, pf, pg]
        refine tk (i := 5) (v := ?_) rfl (Or.inl ⟨by rfl, ?_⟩) (by assumption) ?_
        rotate_left
        · (intro w hSw; (try dsimp only at hSw); go_simp; (try with_reducible rfl))
        try simp only [pa, pb, pc, Act.put, pe, pf, pg]
        have x4 := HA13.out.st.c4
        refine wpAnyH_ready (rs := [1]) (by kernel_rfl) (by simp) (AllReadyH.cons rfl (fun K hK => ?_) AllReadyH.nil)
        go_simp
        refine hK.out _ _ ?_ (fun hHeld => ?_)
        · exact hq
        clear hK K
        try simp only [pa, pb, pc, Act.put, pe, pf, pg]
        clear x4
        refine tk (i := 6) (v := ?_) rfl (Or.inl ⟨by rfl, ?_⟩) (by assumption) ?_
        rotate_left
        · (intro w hSw; (try dsimp only at hSw); go_simp; (try with_reducible rfl))
        try simp only [pa, pb, pc, Act.put, pe, pf, pg]
        refine tk (i := 7) (v := ?_) rfl (Or.inl ⟨by rfl, ?_⟩) (by assumption) ?_
        rotate_left
        · (intro w hSw; (try dsimp only at hSw); go_simp; (try with_reducible rfl))
        try simp only [pa, pb, pc, Act.put, pe, pf, pg]
        have HE13 := Lib.hid (HA13.out.set4 c9)
        have hqs := HE13.out.d.box.all.1
        have x4 := HA13.out.st.c4; have f4 := HA13.out.st.f 4
        refine wpAnyH_ready (rs := [8]) (by kernel_rfl) (by simp) (AllReadyH.cons rfl (fun K hK => ?_) AllReadyH.nil)
        go_simp
        refine hK.out _ _ ?_ (fun hHeld => ?_)
        · exact hqs
        clear hK K hq hqs x4 f4 HA13 hHeld
        generalize wx13.setCell ⟨X, 4, none⟩ (.int .i64 c9) = wi at HE13 ⊢
        try simp only [pa, pb, pc, Act.put, pe, pf, pg]
        refine wpAnyH_done (by kernel_rfl) ?_ _
        go_upto_region 14 with fail
        have HE := Lib.hid (HE13.out.call (Below.drew (Below.refl _ _)))
        have hq : wi.drew.cell? ⟨B, 0, none⟩ = some (.int .i64 v.id) ∧ wi.drew.cell? ⟨B, 1, none⟩ = some (.slice v.no v.n.length v.nc) ∧ wi.drew.cell? ⟨B, 2, none⟩ = some (.slice v.mo v.cs.length v.mc) ∧ wi.drew.cell? ⟨B, 3, none⟩ = some (.slice v.eo v.e.length v.ec) ∧ wi.drew.cell? ⟨X, 0, none⟩ = some (.int .i64 a) ∧ wi.drew.cell? ⟨X, 1, none⟩ = some (.int .i64 bi) ∧ wi.drew.cell? ⟨X, 2, none⟩ = some (.int .i64 r') ∧ wi.drew.cell? ⟨X, 3, none⟩ = some (.int .i64 s') ∧ wi.drew.cell? ⟨X, 4, none⟩ = some (.int .i64 c9) := ⟨HE.out.d.box.all.1, HE.out.d.box.all.2.1, HE.out.d.box.all.2.2.1, HE.out.d.box.all.2.2.2, HE.out.st.c0, HE.out.st.c1, HE.out.st.c2, HE.out.st.c3, HE.out.st.c4⟩
        clear HE13
        refine wp_region_held_drew (S := fun w' => w'.cell? ⟨B, 0, none⟩ = some (.int .i64 v.id) ∧ w'.cell? ⟨B, 1, none⟩ = some (.slice v.no v.n.length v.nc) ∧ w'.cell? ⟨B, 2, none⟩ = some (.slice v.mo v.cs.length v.mc) ∧ w'.cell? ⟨B, 3, none⟩ = some (.slice v.eo v.e.length v.ec) ∧ w'.cell? ⟨X, 0, none⟩ = some (.int .i64 a) ∧ w'.cell? ⟨X, 1, none⟩ = some (.int .i64 bi) ∧ w'.cell? ⟨X, 2, none⟩ = some (.int .i64 r') ∧ w'.cell? ⟨X, 3, none⟩ = some (.int .i64 s') ∧ w'.cell? ⟨X, 4, none⟩ = some (.int .i64 c9)) (by kernel_rfl) (hq) (fun hHeld => ?_)
        generalize wi.drew = wd at HE hq hHeld ⊢
        refine tk (i := 0) (v := ?_) rfl (Or.inl ⟨by rfl, ?_⟩) (by assumption) ?_
        rotate_left
        · (intro w hSw; (try dsimp only at hSw); go_simp; (try with_reducible rfl))
        try simp only [pa, pb, pc, Act.put, pe, pf, pg]
        refine tk (i := 1) (v := ?_) rfl (Or.inl ⟨by rfl, ?_⟩) (by assumption) ?_
        rotate_left
        · (intro w hSw; (try dsimp only at hSw); go_simp; (try with_reducible rfl))
        try simp only [pa, pb, pc, Act.put, pe, pf, pg]
        have HF := Lib.hid HE.out.fin
        have hr0 := HE.out.d.ret1.all
        dsimp only [Mv.zero, List.length_nil] at hr0
        obtain ⟨r0, r1, r2, r3⟩ := hr0
        have f0 := HE.out.d.ret1.f 0; have f1 := HE.out.d.ret1.f 1; have f2 := HE.out.d.ret1.f 2; have f3 := HE.out.d.ret1.f 3
        have h1 : B ≠ w.heap.size := by have := HE.out.d.bl; omega
        have h2 : X ≠ w.heap.size := by have := HE.out.d.bl; have := HE.out.xb; omega
        have h3 : B ≠ w.heap.size + 1 := by have := HE.out.d.bl; omega
        have h4 : X ≠ w.heap.size + 1 := by have := HE.out.d.bl; have := HE.out.xb; omega
        have HH3 := Lib.hid h3; have HH4 := Lib.hid h4
        clear h3 h4
        have hB := HE.out.d.box.grown (grown_setMv wd w.heap.size v) (by simp; omega)
        have hX := StateAt.grown HE.out.st (grown_setMv wd w.heap.size v) (by simp; omega)
        have hY := StateAt.grown HE.out.d.ret2 (grown_setMv wd w.heap.size v) (by simp)
        have hqm : (setMv wd w.heap.size v).cell? ⟨B, 0, none⟩ = some (.int .i64 v.id) ∧ (setMv wd w.heap.size v).cell? ⟨B, 1, none⟩ = some (.slice v.no v.n.length v.nc) ∧ (setMv wd w.heap.size v).cell? ⟨B, 2, none⟩ = some (.slice v.mo v.cs.length v.mc) ∧ (setMv wd w.heap.size v).cell? ⟨B, 3, none⟩ = some (.slice v.eo v.e.length v.ec) ∧ (setMv wd w.heap.size v).cell? ⟨X, 0, none⟩ = some (.int .i64 a) ∧ (setMv wd w.heap.size v).cell? ⟨X, 1, none⟩ = some (.int .i64 bi) ∧ (setMv wd w.heap.size v).cell? ⟨X, 2, none⟩ = some (.int .i64 r') ∧ (setMv wd w.heap.size v).cell? ⟨X, 3, none⟩ = some (.int .i64 s') ∧ (setMv wd w.heap.size v).cell? ⟨X, 4, none⟩ = some (.int .i64 c9) := ⟨hB.all.1, hB.all.2.1, hB.all.2.2.1, hB.all.2.2.2, hX.c0, hX.c1, hX.c2, hX.c3, hX.c4⟩
        refine wpAnyH_ready (rs := [2]) (by kernel_rfl) (by simp) (AllReadyH.cons rfl (fun K hK => ?_) AllReadyH.nil)
        go_simp
        refine hK.out _ (setMv wd w.heap.size v) ?_ (fun hHeld => ?_)
        · exact hqm
        clear hK K r0 r1 r2 r3 f0 f1 f2 f3 hq h1 h2
        obtain ⟨wm, hwm⟩ : ∃ W, setMv wd w.heap.size v = W := ⟨_, rfl⟩
        rw [hwm] at HF hB hX hY hqm hHeld ⊢
        clear hwm HE
        try simp only [pa, pb, pc, Act.put, pe, pf, pg]
        have r0 := hY.c0; have r1 := hY.c1; have r2 := hY.c2; have r3 := hY.c3; have r4 := hY.c4
        have f0 := hY.f 0; have f1 := hY.f 1; have f2 := hY.f 2; have f3 := hY.f 3; have f4 := hY.f 4
        have hqf : (setFive wm (w.heap.size + 1) a bi r' s' c9).cell? ⟨B, 0, none⟩ = some (.int .i64 v.id) ∧ (setFive wm (w.heap.size + 1) a bi r' s' c9).cell? ⟨B, 1, none⟩ = some (.slice v.no v.n.length v.nc) ∧ (setFive wm (w.heap.size + 1) a bi r' s' c9).cell? ⟨B, 2, none⟩ = some (.slice v.mo v.cs.length v.mc) ∧ (setFive wm (w.heap.size + 1) a bi r' s' c9).cell? ⟨B, 3, none⟩ = some (.slice v.eo v.e.length v.ec) ∧ (setFive wm (w.heap.size + 1) a bi r' s' c9).cell? ⟨X, 0, none⟩ = some (.int .i64 a) ∧ (setFive wm (w.heap.size + 1) a bi r' s' c9).cell? ⟨X, 1, none⟩ = some (.int .i64 bi) ∧ (setFive wm (w.heap.size + 1) a bi r' s' c9).cell? ⟨X, 2, none⟩ = some (.int .i64 r') ∧ (setFive wm (w.heap.size + 1) a bi r' s' c9).cell? ⟨X, 3, none⟩ = some (.int .i64 s') ∧ (setFive wm (w.heap.size + 1) a bi r' s' c9).cell? ⟨X, 4, none⟩ = some (.int .i64 c9) := by
          have hB2 := hB.grown (grown_setF wm (w.heap.size + 1) a bi r' s' c9) (by have := HH3.out; simp; omega)
          have hX2 := StateAt.grown hX (grown_setF wm (w.heap.size + 1) a bi r' s' c9) (by have := HH4.out; simp; omega)
          exact ⟨hB2.all.1, hB2.all.2.1, hB2.all.2.2.1, hB2.all.2.2.2, hX2.c0, hX2.c1, hX2.c2, hX2.c3, hX2.c4⟩
        refine wpAnyH_ready (rs := [3]) (by kernel_rfl) (by simp) (AllReadyH.cons rfl (fun K hK => ?_) AllReadyH.nil)
        go_simp
        refine hK.out _ (setFive wm (w.heap.size + 1) a bi r' s' c9) ?_ (fun hHeld => ?_)
        · exact hqf
        clear hK K r0 r1 r2 r3 r4 f0 f1 f2 f3 f4 hqf hB hX hY hqm hHeld
        generalize (setFive wm (w.heap.size + 1) a bi r' s' c9) = wz at HF ⊢
        try simp only [pa, pb, pc, Act.put, pe, pf, pg]
        refine wpAnyH_done (by kernel_rfl) ?_ _
        go_wp2_with fail
        obtain ⟨h1, h2, h3, h4, h5, h6⟩ := HF.out
        obtain ⟨e0, e1, e2, e3⟩ := h1.all
        have e4 := h2.c0; have e5 := h2.c1; have e6 := h2.c2; have e7 := h2.c3; have e8 := h2.c4
        exact bodyPost_ret (v := .tuple #[mvVal v, .agg #[.int .i64 a, .int .i64 bi, .int .i64 r', .int .i64 s', .int .i64 c9]]) (by simp [mvVal, results, Tryz.results68, go_sem, e0, e1, e2, e3, e4, e5, e6, e7, e8]) rfl ⟨v, a, bi, r', s', c9, rfl, h3, h4, h5, h6⟩
    · have hy3b : (y3 == 0) = false := by simp [hy3]
      clear hy3
      go_upto_region 14 with fail
      have HE := Lib.hid (HH.out.call (Below.drew (Below.refl _ _)))
      have hq : wh.drew.cell? ⟨B, 0, none⟩ = some (.int .i64 v.id) ∧ wh.drew.cell? ⟨B, 1, none⟩ = some (.slice v.no v.n.length v.nc) ∧ wh.drew.cell? ⟨B, 2, none⟩ = some (.slice v.mo v.cs.length v.mc) ∧ wh.drew.cell? ⟨B, 3, none⟩ = some (.slice v.eo v.e.length v.ec) ∧ wh.drew.cell? ⟨X, 0, none⟩ = some (.int .i64 a) ∧ wh.drew.cell? ⟨X, 1, none⟩ = some (.int .i64 bi) ∧ wh.drew.cell? ⟨X, 2, none⟩ = some (.int .i64 r') ∧ wh.drew.cell? ⟨X, 3, none⟩ = some (.int .i64 s') ∧ wh.drew.cell? ⟨X, 4, none⟩ = some (.int .i64 A) := ⟨HE.out.d.box.all.1, HE.out.d.box.all.2.1, HE.out.d.box.all.2.2.1, HE.out.d.box.all.2.2.2, HE.out.st.c0, HE.out.st.c1, HE.out.st.c2, HE.out.st.c3, HE.out.st.c4⟩
      clear HH
      refine wp_region_held_drew (S := fun w' => w'.cell? ⟨B, 0, none⟩ = some (.int .i64 v.id) ∧ w'.cell? ⟨B, 1, none⟩ = some (.slice v.no v.n.length v.nc) ∧ w'.cell? ⟨B, 2, none⟩ = some (.slice v.mo v.cs.length v.mc) ∧ w'.cell? ⟨B, 3, none⟩ = some (.slice v.eo v.e.length v.ec) ∧ w'.cell? ⟨X, 0, none⟩ = some (.int .i64 a) ∧ w'.cell? ⟨X, 1, none⟩ = some (.int .i64 bi) ∧ w'.cell? ⟨X, 2, none⟩ = some (.int .i64 r') ∧ w'.cell? ⟨X, 3, none⟩ = some (.int .i64 s') ∧ w'.cell? ⟨X, 4, none⟩ = some (.int .i64 A)) (by kernel_rfl) (hq) (fun hHeld => ?_)
      generalize wh.drew = wd at HE hq hHeld ⊢
      refine tk (i := 0) (v := ?_) rfl (Or.inl ⟨by rfl, ?_⟩) (by assumption) ?_
      rotate_left
      · (intro w hSw; (try dsimp only at hSw); go_simp; (try with_reducible rfl))
      try simp only [pa, pb, pc, Act.put, pe, pf, pg]
      refine tk (i := 1) (v := ?_) rfl (Or.inl ⟨by rfl, ?_⟩) (by assumption) ?_
      rotate_left
      · (intro w hSw; (try dsimp only at hSw); go_simp; (try with_reducible rfl))
      try simp only [pa, pb, pc, Act.put, pe, pf, pg]
      have HF := Lib.hid HE.out.fin
      have hr0 := HE.out.d.ret1.all
      dsimp only [Mv.zero, List.length_nil] at hr0
      obtain ⟨r0, r1, r2, r3⟩ := hr0
      have f0 := HE.out.d.ret1.f 0; have f1 := HE.out.d.ret1.f 1; have f2 := HE.out.d.ret1.f 2; have f3 := HE.out.d.ret1.f 3
      have h1 : B ≠ w.heap.size := by have := HE.out.d.bl; omega
      have h2 : X ≠ w.heap.size := by have := HE.out.d.bl; have := HE.out.xb; omega
      have h3 : B ≠ w.heap.size + 1 := by have := HE.out.d.bl; omega
      have h4 : X ≠ w.heap.size + 1 := by have := HE.out.d.bl; have := HE.out.xb; omega
      have HH3 := Lib.hid h3; have HH4 := Lib.hid h4
      clear h3 h4
      have hB := HE.out.d.box.grown (grown_setMv wd w.heap.size v) (by simp; omega)
      have hX := StateAt.grown HE.out.st (grown_setMv wd w.heap.size v) (by simp; omega)
      have hY := StateAt.grown HE.out.d.ret2 (grown_setMv wd w.heap.size v) (by simp)
      have hqm : (setMv wd w.heap.size v).cell? ⟨B, 0, none⟩ = some (.int .i64 v.id) ∧ (setMv wd w.heap.size v).cell? ⟨B, 1, none⟩ = some (.slice v.no v.n.length v.nc) ∧ (setMv wd w.heap.size v).cell? ⟨B, 2, none⟩ = some (.slice v.mo v.cs.length v.mc) ∧ (setMv wd w.heap.size v).cell? ⟨B, 3, none⟩ = some (.slice v.eo v.e.length v.ec) ∧ (setMv wd w.heap.size v).cell? ⟨X, 0, none⟩ = some (.int .i64 a) ∧ (setMv wd w.heap.size v).cell? ⟨X, 1, none⟩ = some (.int .i64 bi) ∧ (setMv wd w.heap.size v).cell? ⟨X, 2, none⟩ = some (.int .i64 r') ∧ (setMv wd w.heap.size v).cell? ⟨X, 3, none⟩ = some (.int .i64 s') ∧ (setMv wd w.heap.size v).cell? ⟨X, 4, none⟩ = some (.int .i64 A) := ⟨hB.all.1, hB.all.2.1, hB.all.2.2.1, hB.all.2.2.2, hX.c0, hX.c1, hX.c2, hX.c3, hX.c4⟩
      refine wpAnyH_ready (rs := [2]) (by kernel_rfl) (by simp) (AllReadyH.cons rfl (fun K hK => ?_) AllReadyH.nil)
      go_simp
      refine hK.out _ (setMv wd w.heap.size v) ?_ (fun hHeld => ?_)
      · exact hqm
      clear hK K r0 r1 r2 r3 f0 f1 f2 f3 hq h1 h2
      obtain ⟨wm, hwm⟩ : ∃ W, setMv wd w.heap.size v = W := ⟨_, rfl⟩
      rw [hwm] at HF hB hX hY hqm hHeld ⊢
      clear hwm HE
      try simp only [pa, pb, pc, Act.put, pe, pf, pg]
      have r0 := hY.c0; have r1 := hY.c1; have r2 := hY.c2; have r3 := hY.c3; have r4 := hY.c4
      have f0 := hY.f 0; have f1 := hY.f 1; have f2 := hY.f 2; have f3 := hY.f 3; have f4 := hY.f 4
      have hqf : (setFive wm (w.heap.size + 1) a bi r' s' A).cell? ⟨B, 0, none⟩ = some (.int .i64 v.id) ∧ (setFive wm (w.heap.size + 1) a bi r' s' A).cell? ⟨B, 1, none⟩ = some (.slice v.no v.n.length v.nc) ∧ (setFive wm (w.heap.size + 1) a bi r' s' A).cell? ⟨B, 2, none⟩ = some (.slice v.mo v.cs.length v.mc) ∧ (setFive wm (w.heap.size + 1) a bi r' s' A).cell? ⟨B, 3, none⟩ = some (.slice v.eo v.e.length v.ec) ∧ (setFive wm (w.heap.size + 1) a bi r' s' A).cell? ⟨X, 0, none⟩ = some (.int .i64 a) ∧ (setFive wm (w.heap.size + 1) a bi r' s' A).cell? ⟨X, 1, none⟩ = some (.int .i64 bi) ∧ (setFive wm (w.heap.size + 1) a bi r' s' A).cell? ⟨X, 2, none⟩ = some (.int .i64 r') ∧ (setFive wm (w.heap.size + 1) a bi r' s' A).cell? ⟨X, 3, none⟩ = some (.int .i64 s') ∧ (setFive wm (w.heap.size + 1) a bi r' s' A).cell? ⟨X, 4, none⟩ = some (.int .i64 A) := by
        have hB2 := hB.grown (grown_setF wm (w.heap.size + 1) a bi r' s' A) (by have := HH3.out; simp; omega)
        have hX2 := StateAt.grown hX (grown_setF wm (w.heap.size + 1) a bi r' s' A) (by have := HH4.out; simp; omega)
        exact ⟨hB2.all.1, hB2.all.2.1, hB2.all.2.2.1, hB2.all.2.2.2, hX2.c0, hX2.c1, hX2.c2, hX2.c3, hX2.c4⟩
      refine wpAnyH_ready (rs := [3]) (by kernel_rfl) (by simp) (AllReadyH.cons rfl (fun K hK => ?_) AllReadyH.nil)
      go_simp
      refine hK.out _ (setFive wm (w.heap.size + 1) a bi r' s' A) ?_ (fun hHeld => ?_)
      · exact hqf
      clear hK K r0 r1 r2 r3 r4 f0 f1 f2 f3 f4 hqf hB hX hY hqm hHeld
      generalize (setFive wm (w.heap.size + 1) a bi r' s' A) = wz at HF ⊢
      try simp only [pa, pb, pc, Act.put, pe, pf, pg]
      refine wpAnyH_done (by kernel_rfl) ?_ _
      go_wp2_with fail
      obtain ⟨h1, h2, h3, h4, h5, h6⟩ := HF.out
      obtain ⟨e0, e1, e2, e3⟩ := h1.all
      have e4 := h2.c0; have e5 := h2.c1; have e6 := h2.c2; have e7 := h2.c3; have e8 := h2.c4
      exact bodyPost_ret (v := .tuple #[mvVal v, .agg #[.int .i64 a, .int .i64 bi, .int .i64 r', .int .i64 s', .int .i64 A]]) (by simp [mvVal, results, Tryz.results68, go_sem, e0, e1, e2, e3, e4, e5, e6, e7, e8]) rfl ⟨v, a, bi, r', s', A, rfl, h3, h4, h5, h6⟩
end

section
open Go.RowKit
def DrawnV2 (w : World) (e : Ending) (w' : World) : Prop := ∃ (v : Mv) (t m r s k : Int), e = .returned (.tuple #[mvVal v, .agg #[.int .i64 t, .int .i64 m, .int .i64 r, .int .i64 s, .int .i64 k]]) ∧ RdMe w' v ∧ AnyMv v ∧ Below w.heap.size w w'
set_option linter.unusedSimpArgs false in
set_option maxRecDepth 100000 in
set_option maxHeartbeats 4000000 in
theorem drawStatesOfCycle_any (ao : Option Addr) (n cap : Nat) (xs : List Int) (w : World) (hr : RdB w w.heap.size ao n xs) (hn : n ≤ 1048576) :
    Calls Tryz.prog 17 #[.slice ao n cap] w (DrawnV2 w) := by
  have b1 : Below w.heap.size w (w.alloc (.cells #[.int .i64 0, .slice none 0 0, .slice none 0 0, .slice none 0 0] 28)) := (Below.refl _ _).alloc (Nat.le_refl _) _
  have b2 : Below w.heap.size w ((w.alloc (.cells #[.int .i64 0, .slice none 0 0, .slice none 0 0, .slice none 0 0] 28)).alloc (.cells #[.int .i64 0, .int .i64 0, .int .i64 0, .int .i64 0, .int .i64 0] 30)) := b1.alloc (by rw [World.size_alloc]; omega) _
  have hz : ((w.alloc (.cells #[.int .i64 0, .slice none 0 0, .slice none 0 0, .slice none 0 0] 28)).alloc (.cells #[.int .i64 0, .int .i64 0, .int .i64 0, .int .i64 0, .int .i64 0] 30)).heap.size = w.heap.size + 2 := by rw [World.size_alloc, World.size_alloc]
  have HR1 := Lib.hid (show MvAt 28 ((w.alloc (.cells #[.int .i64 0, .slice none 0 0, .slice none 0 0, .slice none 0 0] 28)).alloc (.cells #[.int .i64 0, .int .i64 0, .int .i64 0, .int .i64 0, .int .i64 0] 30)) w.heap.size Mv.zero from (MvAt.new (v := Mv.zero) w).below ((Below.refl _ _).alloc (Nat.le_refl _) _) (by rw [World.size_alloc]; omega))
  have HR2 := Lib.hid (show StateAt 30 ((w.alloc (.cells #[.int .i64 0, .slice none 0 0, .slice none 0 0, .slice none 0 0] 28)).alloc (.cells #[.int .i64 0, .int .i64 0, .int .i64 0, .int .i64 0, .int .i64 0] 30)) (w.heap.size + 1) 0 0 0 0 0 from by have h := StateAt.new (T := 30) (t := 0) (m := 0) (r := 0) (s := 0) (k := 0) (w.alloc (.cells #[.int .i64 0, .slice none 0 0, .slice none 0 0, .slice none 0 0] 28)); rwa [World.size_alloc] at h)
  have HRB := Lib.hid (rdB_later hr b2); have HB := Lib.hid b2; have HZ := Lib.hid hz
  clear hr b1 b2 hz
  go_enter Tryz.func17, Tryz.ntmps17
  go_upto_region 1 with fail
  generalize ((w.alloc (.cells #[.int .i64 0, .slice none 0 0, .slice none 0 0, .slice none 0 0] 28)).alloc (.cells #[.int .i64 0, .int .i64 0, .int .i64 0, .int .i64 0, .int .i64 0] 30)) = w0 at HR1 HR2 HRB HB HZ ⊢
  go_wp2_with fail
  refine (from_any _ _ _ xs _ HRB.out hn).mono ?_
  rintro e w1 ⟨p, rfl, hlo, hs1, hb1⟩
  rw [HZ.out] at hlo
  have HS1 := Lib.hid hs1; have HLO := Lib.hid hlo
  have HQ1 := Lib.hid (HR1.out.below hb1 HR1.out.lt); have HQ2 := Lib.hid (StateAt.below HR2.out hb1 (StateAt.lt HR2.out)); have HB1 := Lib.hid (below_two HB.out hb1)
  clear hs1 hb1 HR1 HR2 HRB HB HZ hlo
  go_wp2_with fail
  refine (l15Draw_any p _ HS1.out).mono ?_
  rintro e w2 ⟨v, t, m, r, s, k, rfl, lo2, an2, -, g2⟩
  have hlo := HLO.out
  have hp1 := HS1.out.lt
  have q1 := HQ1.out.grown g2 (by simp; omega)
  have q2 := StateAt.grown HQ2.out g2 (by simp; omega)
  have hr0 := q1.all
  dsimp only [Mv.zero, List.length_nil] at hr0
  obtain ⟨r0, r1, r2, r3⟩ := hr0
  have f0 := q1.f 0; have f1 := q1.f 1; have f2 := q1.f 2; have f3 := q1.f 3
  have hY : StateAt 30 ((((w2.setCell ⟨w.heap.size, 0, none⟩ (.int .i64 v.id)).setCell ⟨w.heap.size, 1, none⟩ (.slice v.no v.n.length v.nc)).setCell ⟨w.heap.size, 2, none⟩ (.slice v.mo v.cs.length v.mc)).setCell ⟨w.heap.size, 3, none⟩ (.slice v.eo v.e.length v.ec)) (w.heap.size + 1) 0 0 0 0 0 := StateAt.grown q2 (grown_setMv w2 w.heap.size v) (by simp)
  have s0 := hY.c0; have s1 := hY.c1; have s2 := hY.c2; have s3 := hY.c3; have s4 := hY.c4
  have k0 := hY.f 0; have k1 := hY.f 1; have k2 := hY.f 2; have k3 := hY.f 3; have k4 := hY.f 4
  have h1 := (q1.put v).grown (grown_setF _ (w.heap.size + 1) t m r s k) (by simp)
  have h2 := StateAt.five hY t m r s k
  have h3 := ((lo2.far (grown_setMv w2 w.heap.size v) (by omega)).far (grown_setF _ (w.heap.size + 1) t m r s k) (by omega)).rd an2
  have h4 : Below w.heap.size w (setFive (setMv w2 w.heap.size v) (w.heap.size + 1) t m r s k) := ((HB1.out.grown g2 HB1.out.size (fun k hk => by cases hk; omega)).trans (below_setMv (Nat.le_refl _) v)).trans (below_five (Nat.le_succ _) t m r s k)
  have HH1 := Lib.hid h1; have HH2 := Lib.hid (show StateAt 30 (setFive (setMv w2 w.heap.size v) (w.heap.size + 1) t m r s k) (w.heap.size + 1) t m r s k from h2); have HH3 := Lib.hid h3; have HH4 := Lib.hid h4
  clear h1 h2 h3 h4 hlo hp1 q1 q2 lo2 g2 HLO HS1 HQ1 HQ2 HB1
  unfold mvVal
  go_wp2_with fail
  change bodyPost _ _ _ _ _ (setFive (setMv w2 w.heap.size v) (w.heap.size + 1) t m r s k)
  clear r0 r1 r2 r3 f0 f1 f2 f3 s0 s1 s2 s3 s4 k0 k1 k2 k3 k4 hY
  generalize setFive (setMv w2 w.heap.size v) (w.heap.size + 1) t m r s k = wz at HH1 HH2 HH3 HH4 ⊢
  obtain ⟨e0, e1, e2, e3⟩ := HH1.out.all
  have e4 := HH2.out.c0; have e5 := HH2.out.c1; have e6 := HH2.out.c2; have e7 := HH2.out.c3; have e8 := HH2.out.c4
  exact bodyPost_ret (v := .tuple #[mvVal v, .agg #[.int .i64 t, .int .i64 m, .int .i64 r, .int .i64 s, .int .i64 k]]) (by simp [mvVal, results, Tryz.results17, go_sem, e0, e1, e2, e3, e4, e5, e6, e7, e8]) rfl ⟨v, t, m, r, s, k, rfl, HH3.out, an2, HH4.out⟩
end
end Go.Proofs.YthihjhidjnadaaaGreat
