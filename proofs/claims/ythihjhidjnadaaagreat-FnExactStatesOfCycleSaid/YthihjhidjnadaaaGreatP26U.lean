/-
  Contracts of the program's, the model's and the laws' functions, and plain mathematics, on which a proof of this claim stands (part U).
-/
import Derived.Laws.NewBlocks
import Derived.Test.YthihjhidjnadaaaGreatP26A
import Derived.Test.YthihjhidjnadaaaGreatP26N
import Derived.Test.YthihjhidjnadaaaGreatP26I
import Derived.Test.YthihjhidjnadaaaGreatP26M
namespace Go.Proofs.YthihjhidjnadaaaGreat
section
open Go.RowKit
section
variable {P : Program} {E T : Nat} (w : World) {ops : Array Oper} {rest : List Oper} {o : Oper} {a : Act} {Q : Exit → Act → World → Prop} {K : Act → World → Prop}
end
def LkAt (w : World) (b : Nat) (v : Mv) (d l : Int) (sv : Value) : Prop :=
  w.heap[b]? = some (.cells #[.int .i64 v.id, .slice v.no v.n.length v.nc, .slice v.mo v.cs.length v.mc, .slice v.eo v.e.length v.ec, .int .u32 d, .int .i32 l, .int .u32 0, sv] 125 (0, 0))
section
variable {w w' : World} {b : Nat} {v : Mv} {d l : Int} {sv : Value}
theorem LkAt.c0 (h : LkAt w b v d l sv) : w.cell? ⟨b, 0, none⟩ = some (.int .i64 v.id) := cell_of_row w b 0 _ _ (0, 0) h
theorem LkAt.c1 (h : LkAt w b v d l sv) : w.cell? ⟨b, 1, none⟩ = some (.slice v.no v.n.length v.nc) := cell_of_row w b 1 _ _ (0, 0) h
theorem LkAt.c2 (h : LkAt w b v d l sv) : w.cell? ⟨b, 2, none⟩ = some (.slice v.mo v.cs.length v.mc) := cell_of_row w b 2 _ _ (0, 0) h
theorem LkAt.c3 (h : LkAt w b v d l sv) : w.cell? ⟨b, 3, none⟩ = some (.slice v.eo v.e.length v.ec) := cell_of_row w b 3 _ _ (0, 0) h
theorem LkAt.c4 (h : LkAt w b v d l sv) : w.cell? ⟨b, 4, none⟩ = some (.int .u32 d) := cell_of_row w b 4 _ _ (0, 0) h
theorem LkAt.c5 (h : LkAt w b v d l sv) : w.cell? ⟨b, 5, none⟩ = some (.int .i32 l) := cell_of_row w b 5 _ _ (0, 0) h
theorem LkAt.c7 (h : LkAt w b v d l sv) : w.cell? ⟨b, 7, none⟩ = some sv := cell_of_row w b 7 _ _ (0, 0) h
theorem LkAt.f (h : LkAt w b v d l sv) (i : Nat) : w.frozen? ⟨b, i, none⟩ = false := frozen_of_row w b i _ _ h
theorem LkAt.lt (h : LkAt w b v d l sv) : b < w.heap.size := (Array.getElem?_eq_some_iff.1 h).1
theorem LkAt.grown {g : Option Nat} (h : LkAt w b v d l sv) (hg : w.grownBy w' g) (hne : some b ≠ g) : LkAt w' b v d l sv := (hg.block b h.lt hne).trans h
theorem LkAt.below {B : Nat} (h : LkAt w b v d l sv) (hb : Below B w w') (hlt : b < B) : LkAt w' b v d l sv := (hb.block b hlt).trans h
theorem LkAt.new (w : World) : LkAt (w.alloc (.cells #[.int .i64 v.id, .slice v.no v.n.length v.nc, .slice v.mo v.cs.length v.mc, .slice v.eo v.e.length v.ec, .int .u32 d, .int .i32 l, .int .u32 0, sv] 125)) w.heap.size v d l sv := heap_alloc_new w _
theorem LkAt.drew (h : LkAt w b v d l sv) : LkAt w.drew b v d l sv := h
theorem LkAt.set4 (h : LkAt w b v d l sv) (z : Int) : LkAt (w.setCell ⟨b, 4, none⟩ (.int .u32 z)) b v z l sv := by
  have := heap_setCell_same w b 4 _ _ (.int .u32 z) h
  simpa [LkAt] using this
theorem LkAt.set5 (h : LkAt w b v d l sv) (z : Int) : LkAt (w.setCell ⟨b, 5, none⟩ (.int .i32 z)) b v d z sv := by
  have := heap_setCell_same w b 5 _ _ (.int .i32 z) h
  simpa [LkAt] using this
theorem LkAt.set7 (h : LkAt w b v d l sv) (z : Value) : LkAt (w.setCell ⟨b, 7, none⟩ z) b v d l z := by
  have := heap_setCell_same w b 7 _ _ z h
  simpa [LkAt] using this
end
end

section
open Go.RowKit
def ssVal (x : Ss) : Value := .agg #[.int .i64 x.t, .int .i64 x.m, .int .i64 x.r, .int .i64 x.s, .int .i64 x.k]
def SsAt (w : World) (b : Nat) (x : Ss) : Prop := StateAt 30 w b x.t x.m x.r x.s x.k
theorem SsAt.all {w : World} {b : Nat} {x : Ss} (h : SsAt w b x) : w.cell? ⟨b, 0, none⟩ = some (.int .i64 x.t) ∧ w.cell? ⟨b, 1, none⟩ = some (.int .i64 x.m) ∧ w.cell? ⟨b, 2, none⟩ = some (.int .i64 x.r) ∧ w.cell? ⟨b, 3, none⟩ = some (.int .i64 x.s) ∧ w.cell? ⟨b, 4, none⟩ = some (.int .i64 x.k) :=
  ⟨StateAt.c0 h, StateAt.c1 h, StateAt.c2 h, StateAt.c3 h, StateAt.c4 h⟩
structure Ls (w W : World) (b : Nat) (v : Mv) (d : Int) (sv : Value) (B : Nat) (x : Ss) : Prop where
  lk : LkAt W b v d 0 sv
  st : SsAt W B x
  rd : RdMe W v
  below : Below w.heap.size w W
section
variable {w W W' : World} {b B : Nat} {v : Mv} {d : Int} {sv : Value} {x : Ss}
theorem Ls.call (h : Ls w W b v d sv B x) (hb : Below W.heap.size W W') : Ls w W' b v d sv B x :=
  ⟨h.lk.below hb h.lk.lt, StateAt.below h.st hb (StateAt.lt h.st), h.rd.below hb, below_two h.below hb⟩
theorem Ls.start (hl : LkAt w b v d 0 sv) (hr : RdMe w v) : Ls w (w.alloc (.cells #[.int .i64 x.t, .int .i64 x.m, .int .i64 x.r, .int .i64 x.s, .int .i64 x.k] 30)) b v d sv w.heap.size x := by
  have hb := (Below.refl w.heap.size w).alloc (Nat.le_refl _) (.cells #[.int .i64 x.t, .int .i64 x.m, .int .i64 x.r, .int .i64 x.s, .int .i64 x.k] 30)
  exact ⟨hl.below hb hl.lt, StateAt.new w, hr.below hb, hb⟩
theorem Ls.drew (h : Ls w W b v d sv B x) : Ls w W.drew b v d sv B x := h.call (Below.drew (Below.refl _ _))
end
theorem Lies.cell {v : Mv} {x : Ss} {j R S r s : Nat} (h : Lies v.me x j R S r s) {w : World} (hr : RdMe w v) : ∃ g off, v.mo = some ⟨g, off, none⟩ ∧ j < v.cs.length ∧ w.cell? ⟨g, off + j * 3, none⟩ = some (.int .i64 (R : Int)) ∧ w.cell? ⟨g, off + j * 3 + 1, none⟩ = some (.int .i64 (S : Int)) := by
  have hj : j < v.cs.length := by have e : v.me.modes.length = v.cs.length := mds_len v.cs; have := h.hj; omega
  obtain ⟨g, off, e, -, hx, -⟩ := hr.rm.at hj
  have e1 := h.hR
  have e2 := h.hS
  rw [mdOf_me] at e1 e2
  have c0 := hx.c0
  have c1 := hx.c1
  rw [e1] at c0
  rw [e2] at c1
  exact ⟨g, off, e, hj, c0, c1⟩
set_option maxRecDepth 100000 in
set_option maxHeartbeats 2000000 in
theorem place_any {b : Nat} {v : Mv} {d : Int} {sv : Value} {x : Ss} {j R S r s q : Nat} (w : World) (hl : LkAt w b v d 0 sv) (hr : RdMe w v) (hy : Lies v.me x j R S r s) (hq : r * S + s = q) :
    Calls Tryz.prog 135 #[.pointer (some ⟨b, 0, none⟩), ssVal x] w fun e w' => e = .returned (.int .i64 (q : Int)) ∧ Below w.heap.size w w' := by
  have HX := Lib.hid (Ls.start (x := x) hl hr)
  obtain ⟨g, off, e0, hj, -, hc⟩ := hy.cell HX.out.rd
  have HC := Lib.hid hc
  have he1 := hy.hm
  have he2 := hy.xr
  have he3 := hy.xs
  have hp : r * S ≤ 8 * 16 := Nat.mul_le_mul (by have := hy.lr; have := hy.R8; omega) hy.S16
  have hs16 := hy.ls
  have hS16 := hy.S16
  obtain ⟨p, hpe⟩ : ∃ p, r * S = p := ⟨_, rfl⟩
  rw [hpe] at hp hq
  have hw1 : IntKind.i64.wrap ((r : Int) * (S : Int)) = (p : Int) := mul_i64 p (by rw [← hpe, Int.natCast_mul]) (by omega)
  have hw2 : IntKind.i64.wrap ((p : Int) + (s : Int)) = (q : Int) := by rw [IntKind.wrap_i64]; omega
  clear hl hr hy hc hp hpe hq hs16 hS16
  obtain ⟨t, m, r0, s0, k⟩ := x
  dsimp only at he1 he2 he3
  subst he1 he2 he3
  obtain ⟨id, n, no, nc, cs, mo, mc, e, eo, ec⟩ := v
  dsimp only at e0 hj
  subst e0
  unfold ssVal
  go_enter Tryz.func135, Tryz.ntmps135
  go_upto_region 1 with fail
  dsimp only at HX
  generalize w.alloc (.cells #[.int .i64 t, .int .i64 (j : Int), .int .i64 (r : Int), .int .i64 (s : Int), .int .i64 k] 30) = w1 at HX HC ⊢
  have HX1 := Lib.hid HX.out.drew
  have hc1 := HC.out
  obtain ⟨z0, z1, z2, z3, z4⟩ := HX.out.st.all
  have l2 := HX.out.lk.c2
  dsimp only at z0 z1 z2 z3 z4 l2
  go_quiet (fail)
  go_wp2_with fail
  go_ret
  exact ⟨rfl, HX.out.below.trans ⟨rfl, rfl, rfl, Nat.le_refl _, fun _ _ => rfl⟩⟩
theorem Ls.s1 {w W : World} {b B : Nat} {v : Mv} {d : Int} {sv : Value} {x : Ss} (h : Ls w W b v d sv B x) : W.cell? ⟨B, 0, none⟩ = some (.int .i64 x.t) ∧ W.cell? ⟨B, 1, none⟩ = some (.int .i64 x.m) ∧ W.cell? ⟨B, 2, none⟩ = some (.int .i64 x.r) ∧ W.cell? ⟨B, 3, none⟩ = some (.int .i64 x.s) ∧ W.cell? ⟨B, 4, none⟩ = some (.int .i64 x.k) ∧ W.cell? ⟨b, 2, none⟩ = some (.slice v.mo v.cs.length v.mc) :=
  ⟨h.st.all.1, h.st.all.2.1, h.st.all.2.2.1, h.st.all.2.2.2.1, h.st.all.2.2.2.2, h.lk.c2⟩
theorem andNot_zero (m n : Nat) (hm : m < 9223372036854775808) (hn : n < 9223372036854775808) : (bits .andNot .i64 (m : Int) (n : Int) == 0) = decide (m &&& n = m) := by
  show (IntKind.i64.wrap ((BitVec.ofInt 64 (m : Int) &&& ~~~ BitVec.ofInt 64 (n : Int)).toNat : Nat) == 0) = _
  obtain ⟨E, hE⟩ : ∃ E, (BitVec.ofInt 64 (m : Int) &&& ~~~ BitVec.ofInt 64 (n : Int)).toNat = E := ⟨_, rfl⟩
  have hb : ∀ j, E.testBit j = (m.testBit j && !n.testBit j) := by
    intro j
    rw [← hE, ← BitVec.getLsbD, BitVec.getLsbD_and, BitVec.getLsbD_not, BitVec.getLsbD, BitVec.getLsbD, ofInt_nat _ hm, ofInt_nat _ hn]
    by_cases h : j < 64
    · simp [h]
    · have : m.testBit j = false := Nat.testBit_lt_two_pow (Nat.lt_of_lt_of_le hm (by
        have := Nat.pow_le_pow_right (show 0 < 2 by omega) (show 63 ≤ j by omega)
        omega))
      simp [this]
  have he : E &&& m = E := by
    apply Nat.eq_of_testBit_eq
    intro j
    rw [Nat.testBit_and, hb j]
    cases m.testBit j <;> simp
  have hle : E ≤ m := by rw [← he]; exact Nat.and_le_right
  rw [hE, IntKind.wrap_i64, Bool.eq_iff_iff, beq_iff_eq, decide_eq_true_eq]
  have h0 : E = 0 ↔ m &&& n = m := by
    constructor
    · intro h
      apply Nat.eq_of_testBit_eq
      intro j
      have := hb j
      rw [h] at this
      rw [Nat.testBit_and]
      cases h1 : m.testBit j <;> cases h2 : n.testBit j <;> simp_all
    · intro h
      apply Nat.eq_of_testBit_eq
      intro j
      rw [hb j]
      have := congrArg (fun z => z.testBit j) h
      simp only [Nat.testBit_and] at this
      cases h1 : m.testBit j <;> cases h2 : n.testBit j <;> simp_all
  rw [← h0]
  omega
set_option linter.unusedSimpArgs false in
set_option maxRecDepth 100000 in
set_option maxHeartbeats 4000000 in
theorem luHas_any {b : Nat} {v : Mv} {d : Int} {sv : Value} (x : Ss) (w : World) (hl : LkAt w b v d 0 sv) (hr : RdMe w v) (hw : Well v.me) :
    Calls Tryz.prog 128 #[.pointer (some ⟨b, 0, none⟩), ssVal x] w fun e w' => e = .returned (.bool (belongsB v.me x)) ∧ Below w.heap.size w w' := by
  have HX := Lib.hid (Ls.start (x := x) hl hr)
  have HIS := Lib.hid (fun W => (show Calls Tryz.prog 168 #[ssVal x] W fun e w' => e = .returned (.bool (isSs x)) ∧ Below W.heap.size W w' from isState_any x.t x.m x.r x.s x.k W))
  have HIM := Lib.hid (fun W => isModeOf_any v.mo v.cs.length v.mc x.m (mds v.cs) W (mds_len v.cs) (by have := hr.mcap; have := hr.mle; omega))
  rcases hS : isSs x with _ | _
  · have HF := Lib.hid (show belongsB v.me x = false from by unfold belongsB; rw [hS]; rfl)
    rw [hS] at HIS
    clear hS hl hr hw HIM
    unfold ssVal at HIS ⊢
    go_enter Tryz.func128, Tryz.ntmps128
    go_upto_region 1 with fail
    generalize w.alloc (.cells #[.int .i64 x.t, .int .i64 x.m, .int .i64 x.r, .int .i64 x.s, .int .i64 x.k] 30) = w1 at HX ⊢
    have HX1 := Lib.hid HX.out.drew
    have hq := HX1.out.s1
    clear HX
    refine wp_region_held_drew (S := fun w' => w'.cell? ⟨w.heap.size, 0, none⟩ = some (.int .i64 x.t) ∧ w'.cell? ⟨w.heap.size, 1, none⟩ = some (.int .i64 x.m) ∧ w'.cell? ⟨w.heap.size, 2, none⟩ = some (.int .i64 x.r) ∧ w'.cell? ⟨w.heap.size, 3, none⟩ = some (.int .i64 x.s) ∧ w'.cell? ⟨w.heap.size, 4, none⟩ = some (.int .i64 x.k) ∧ w'.cell? ⟨b, 2, none⟩ = some (.slice v.mo v.cs.length v.mc)) (by kernel_rfl) (hq) (fun hHeld => ?_)
    generalize w1.drew = wd at HX1 hq hHeld ⊢
    refine tk (i := 0) (v := ?_) rfl (Or.inl ⟨by rfl, ?_⟩) (by assumption) ?_
    rotate_left
    · (intro w hSw; (try dsimp only at hSw); go_simp; (try with_reducible rfl))
    try simp only [pa, pb, pc, Act.put, pe, pf, pg]
    refine wpAnyH_ready (rs := [1]) (by kernel_rfl) (by simp) (AllReadyH.cons rfl (fun K hK => ?_) AllReadyH.nil)
    go_simp
    refine (HIS.out _).mono ?_
    rintro e w2 ⟨rfl, b2⟩
    have HX2 := Lib.hid (HX1.out.call b2)
    have hq2 := HX2.out.s1
    go_wp2_with fail
    refine hK.out _ _ ?_ (fun hHeld => ?_)
    · exact hq2
    clear hK K
    try simp only [pa, pb, pc, Act.put, pe, pf, pg]
    clear hq b2 HX1
    refine tk (i := 2) (v := ?_) rfl (Or.inl ⟨by rfl, ?_⟩) (by assumption) ?_
    rotate_left
    · (intro w hSw; (try dsimp only at hSw); go_simp; (try with_reducible rfl))
    try simp only [pa, pb, pc, Act.put, pe, pf, pg]
    refine tk (i := 3) (v := ?_) rfl (Or.inl ⟨by rfl, ?_⟩) (by assumption) ?_
    rotate_left
    · (intro w hSw; (try dsimp only at hSw); go_simp; (try with_reducible rfl))
    try simp only [pa, pb, pc, Act.put, pe, pf, pg]
    refine tk (i := 4) (v := undef) rfl (Or.inr ⟨by rfl, rfl⟩) (by assumption) ?_
    try simp only [pa, pb, pc, Act.put, pe, pf, pg]
    refine tk (i := 5) (v := undef) rfl (Or.inr ⟨by rfl, rfl⟩) (by assumption) ?_
    try simp only [pa, pb, pc, Act.put, pe, pf, pg]
    refine tk (i := 6) (v := undef) rfl (Or.inr ⟨by rfl, rfl⟩) (by assumption) ?_
    try simp only [pa, pb, pc, Act.put, pe, pf, pg]
    refine tk (i := 7) (v := undef) rfl (Or.inr ⟨by rfl, rfl⟩) (by assumption) ?_
    try simp only [pa, pb, pc, Act.put, pe, pf, pg]
    refine tk (i := 8) (v := undef) rfl (Or.inr ⟨by rfl, rfl⟩) (by assumption) ?_
    try simp only [pa, pb, pc, Act.put, pe, pf, pg]
    refine tk (i := 9) (v := undef) rfl (Or.inr ⟨by rfl, rfl⟩) (by assumption) ?_
    try simp only [pa, pb, pc, Act.put, pe, pf, pg]
    refine tk (i := 10) (v := undef) rfl (Or.inr ⟨by rfl, rfl⟩) (by assumption) ?_
    try simp only [pa, pb, pc, Act.put, pe, pf, pg]
    refine tk (i := 11) (v := undef) rfl (Or.inr ⟨by rfl, rfl⟩) (by assumption) ?_
    try simp only [pa, pb, pc, Act.put, pe, pf, pg]
    refine tk (i := 12) (v := undef) rfl (Or.inr ⟨by rfl, rfl⟩) (by assumption) ?_
    try simp only [pa, pb, pc, Act.put, pe, pf, pg]
    refine tk (i := 13) (v := ?_) rfl (Or.inl ⟨by rfl, ?_⟩) (by assumption) ?_
    rotate_left
    · (intro w hSw; (try dsimp only at hSw); go_simp; (try with_reducible rfl))
    try simp only [pa, pb, pc, Act.put, pe, pf, pg]
    refine wpAnyH_done (by kernel_rfl) ?_ _
    clear hq2
    go_wp2_with fail
    go_ret
    rw [HF.out]
    exact ⟨rfl, HX2.out.below⟩
  rcases hM : isMode v.me.modes x.m with _ | _
  · have HF := Lib.hid (show belongsB v.me x = false from by unfold belongsB; rw [hM]; simp)
    rw [hS] at HIS
    rw [show isMode (mds v.cs) x.m = false from hM] at HIM
    clear hS hl hr hw hM
    unfold ssVal at HIS ⊢
    go_enter Tryz.func128, Tryz.ntmps128
    go_upto_region 1 with fail
    generalize w.alloc (.cells #[.int .i64 x.t, .int .i64 x.m, .int .i64 x.r, .int .i64 x.s, .int .i64 x.k] 30) = w1 at HX ⊢
    have HX1 := Lib.hid HX.out.drew
    have hq := HX1.out.s1
    clear HX
    refine wp_region_held_drew (S := fun w' => w'.cell? ⟨w.heap.size, 0, none⟩ = some (.int .i64 x.t) ∧ w'.cell? ⟨w.heap.size, 1, none⟩ = some (.int .i64 x.m) ∧ w'.cell? ⟨w.heap.size, 2, none⟩ = some (.int .i64 x.r) ∧ w'.cell? ⟨w.heap.size, 3, none⟩ = some (.int .i64 x.s) ∧ w'.cell? ⟨w.heap.size, 4, none⟩ = some (.int .i64 x.k) ∧ w'.cell? ⟨b, 2, none⟩ = some (.slice v.mo v.cs.length v.mc)) (by kernel_rfl) (hq) (fun hHeld => ?_)
    generalize w1.drew = wd at HX1 hq hHeld ⊢
    refine tk (i := 0) (v := ?_) rfl (Or.inl ⟨by rfl, ?_⟩) (by assumption) ?_
    rotate_left
    · (intro w hSw; (try dsimp only at hSw); go_simp; (try with_reducible rfl))
    try simp only [pa, pb, pc, Act.put, pe, pf, pg]
    refine wpAnyH_ready (rs := [1]) (by kernel_rfl) (by simp) (AllReadyH.cons rfl (fun K hK => ?_) AllReadyH.nil)
    go_simp
    refine (HIS.out _).mono ?_
    rintro e w2 ⟨rfl, b2⟩
    have HX2 := Lib.hid (HX1.out.call b2)
    have hq2 := HX2.out.s1
    go_wp2_with fail
    refine hK.out _ _ ?_ (fun hHeld => ?_)
    · exact hq2
    clear hK K
    try simp only [pa, pb, pc, Act.put, pe, pf, pg]
    clear hq b2 HX1
    refine tk (i := 2) (v := ?_) rfl (Or.inl ⟨by rfl, ?_⟩) (by assumption) ?_
    rotate_left
    · (intro w hSw; (try dsimp only at hSw); go_simp; (try with_reducible rfl))
    try simp only [pa, pb, pc, Act.put, pe, pf, pg]
    refine tk (i := 3) (v := ?_) rfl (Or.inl ⟨by rfl, ?_⟩) (by assumption) ?_
    rotate_left
    · (intro w hSw; (try dsimp only at hSw); go_simp; (try with_reducible rfl))
    try simp only [pa, pb, pc, Act.put, pe, pf, pg]
    refine tk (i := 4) (v := ?_) rfl (Or.inl ⟨by rfl, ?_⟩) (by assumption) ?_
    rotate_left
    · (intro w hSw; (try dsimp only at hSw); go_simp; (try with_reducible rfl))
    try simp only [pa, pb, pc, Act.put, pe, pf, pg]
    refine tk (i := 5) (v := ?_) rfl (Or.inl ⟨by rfl, ?_⟩) (by assumption) ?_
    rotate_left
    · (intro w hSw; (try dsimp only at hSw); go_simp; (try with_reducible rfl))
    try simp only [pa, pb, pc, Act.put, pe, pf, pg]
    refine tk (i := 6) (v := ?_) rfl (Or.inl ⟨by rfl, ?_⟩) (by assumption) ?_
    rotate_left
    · (intro w hSw; (try dsimp only at hSw); go_simp; (try with_reducible rfl))
    try simp only [pa, pb, pc, Act.put, pe, pf, pg]
    refine tk (i := 7) (v := ?_) rfl (Or.inl ⟨by rfl, ?_⟩) (by assumption) ?_
    rotate_left
    · (intro w hSw; (try dsimp only at hSw); go_simp; (try with_reducible rfl))
    try simp only [pa, pb, pc, Act.put, pe, pf, pg]
    refine tk (i := 8) (v := ?_) rfl (Or.inl ⟨by rfl, ?_⟩) (by assumption) ?_
    rotate_left
    · (intro w hSw; (try dsimp only at hSw); go_simp; (try with_reducible rfl))
    try simp only [pa, pb, pc, Act.put, pe, pf, pg]
    refine tk (i := 9) (v := ?_) rfl (Or.inl ⟨by rfl, ?_⟩) (by assumption) ?_
    rotate_left
    · (intro w hSw; (try dsimp only at hSw); go_simp; (try with_reducible rfl))
    try simp only [pa, pb, pc, Act.put, pe, pf, pg]
    refine tk (i := 10) (v := ?_) rfl (Or.inl ⟨by rfl, ?_⟩) (by assumption) ?_
    rotate_left
    · (intro w hSw; (try dsimp only at hSw); go_simp; (try with_reducible rfl))
    try simp only [pa, pb, pc, Act.put, pe, pf, pg]
    refine wpAnyH_ready (rs := [11]) (by kernel_rfl) (by simp) (AllReadyH.cons rfl (fun K hK => ?_) AllReadyH.nil)
    go_simp
    refine (HIM.out _).mono ?_
    rintro e w3 ⟨rfl, rfl⟩
    go_wp2_with fail
    refine hK.out _ _ ?_ (fun hHeld => ?_)
    · exact hq2
    clear hK K
    try simp only [pa, pb, pc, Act.put, pe, pf, pg]
    refine tk (i := 12) (v := ?_) rfl (Or.inl ⟨by rfl, ?_⟩) (by assumption) ?_
    rotate_left
    · (intro w hSw; (try dsimp only at hSw); go_simp; (try with_reducible rfl))
    try simp only [pa, pb, pc, Act.put, pe, pf, pg]
    refine tk (i := 13) (v := ?_) rfl (Or.inl ⟨by rfl, ?_⟩) (by assumption) ?_
    rotate_left
    · (intro w hSw; (try dsimp only at hSw); go_simp; (try with_reducible rfl))
    try simp only [pa, pb, pc, Act.put, pe, pf, pg]
    refine wpAnyH_done (by kernel_rfl) ?_ _
    clear hq2
    go_wp2_with fail
    go_ret
    rw [HF.out]
    exact ⟨rfl, HX2.out.below⟩
  obtain ⟨j, hj, hjl⟩ := mode_nat hM
  have hjc : j < v.cs.length := by have e : v.me.modes.length = v.cs.length := mds_len v.cs; omega
  have hk := isState_iff.1 (show isState x.t x.m x.r x.s x.k = true from hS)
  have HF := Lib.hid (show belongsB v.me x = (decide (x.r < (mcOf v.cs j).md.rounds) && (decide (x.s < (mcOf v.cs j).md.slots) && decide (x.k.toNat &&& actv v.me = x.k.toNat))) from by
    unfold belongsB
    rw [hS, hM, hj, Int.toNat_natCast, mdOf_me]; simp)
  have HAC := Lib.hid (fun W (hW : RdMe W v) => activeNodes_any v W hW hw.r2)
  have hal := actv_lt (m := v.me) hw.r2
  have HZ := Lib.hid (show (bits .andNot .i64 x.k ((actv v.me : Nat) : Int) == 0) = decide (x.k.toNat &&& actv v.me = x.k.toNat) from by
    have := andNot_zero x.k.toNat (actv v.me) (by omega) (by omega)
    rwa [Int.toNat_of_nonneg hk.2.2.2.2.1] at this)
  rw [hS] at HIS
  rw [show isMode (mds v.cs) x.m = true from hM] at HIM
  have HMD := Lib.hid (fun W (hW : RdMe W v) => hW.rm.at hjc)
  generalize actv v.me = ac at HAC HZ HF
  clear hS hM hjl hl hr hw hk hal
  obtain ⟨t, m, r, s, k⟩ := x
  dsimp only at hj
  subst hj
  generalize belongsB v.me ⟨t, (j : Int), r, s, k⟩ = res at HF ⊢
  dsimp only at HF HZ HIM
  generalize mcOf v.cs j = c at HF HMD
  unfold ssVal at HIS ⊢
  unfold mvVal at HAC
  go_enter Tryz.func128, Tryz.ntmps128
  go_upto_region 1 with fail
  dsimp only at HX
  generalize w.alloc (.cells #[.int .i64 t, .int .i64 (j : Int), .int .i64 r, .int .i64 s, .int .i64 k] 30) = w1 at HX ⊢
  have HX1 := Lib.hid HX.out.drew
  have hq := HX1.out.s1
  dsimp only at hq
  clear HX
  refine wp_region_held_drew (S := fun w' => w'.cell? ⟨w.heap.size, 0, none⟩ = some (.int .i64 t) ∧ w'.cell? ⟨w.heap.size, 1, none⟩ = some (.int .i64 (j : Int)) ∧ w'.cell? ⟨w.heap.size, 2, none⟩ = some (.int .i64 r) ∧ w'.cell? ⟨w.heap.size, 3, none⟩ = some (.int .i64 s) ∧ w'.cell? ⟨w.heap.size, 4, none⟩ = some (.int .i64 k) ∧ w'.cell? ⟨b, 2, none⟩ = some (.slice v.mo v.cs.length v.mc)) (by kernel_rfl) (hq) (fun hHeld => ?_)
  generalize w1.drew = wd at HX1 hq hHeld ⊢
  refine tk (i := 0) (v := ?_) rfl (Or.inl ⟨by rfl, ?_⟩) (by assumption) ?_
  rotate_left
  · (intro w hSw; (try dsimp only at hSw); go_simp; (try with_reducible rfl))
  try simp only [pa, pb, pc, Act.put, pe, pf, pg]
  refine wpAnyH_ready (rs := [1]) (by kernel_rfl) (by simp) (AllReadyH.cons rfl (fun K hK => ?_) AllReadyH.nil)
  go_simp
  refine (HIS.out _).mono ?_
  rintro e w2 ⟨rfl, b2⟩
  have HX2 := Lib.hid (HX1.out.call b2)
  have hq2 := HX2.out.s1
  dsimp only at hq2
  go_wp2_with fail
  refine hK.out _ _ ?_ (fun hHeld => ?_)
  · exact hq2
  clear hK K
  try simp only [pa, pb, pc, Act.put, pe, pf, pg]
  clear hq b2 HX1
  refine tk (i := 2) (v := ?_) rfl (Or.inl ⟨by rfl, ?_⟩) (by assumption) ?_
  rotate_left
  · (intro w hSw; (try dsimp only at hSw); go_simp; (try with_reducible rfl))
  try simp only [pa, pb, pc, Act.put, pe, pf, pg]
  refine tk (i := 3) (v := ?_) rfl (Or.inl ⟨by rfl, ?_⟩) (by assumption) ?_
  rotate_left
  · (intro w hSw; (try dsimp only at hSw); go_simp; (try with_reducible rfl))
  try simp only [pa, pb, pc, Act.put, pe, pf, pg]
  refine tk (i := 4) (v := ?_) rfl (Or.inl ⟨by rfl, ?_⟩) (by assumption) ?_
  rotate_left
  · (intro w hSw; (try dsimp only at hSw); go_simp; (try with_reducible rfl))
  try simp only [pa, pb, pc, Act.put, pe, pf, pg]
  refine tk (i := 5) (v := ?_) rfl (Or.inl ⟨by rfl, ?_⟩) (by assumption) ?_
  rotate_left
  · (intro w hSw; (try dsimp only at hSw); go_simp; (try with_reducible rfl))
  try simp only [pa, pb, pc, Act.put, pe, pf, pg]
  refine tk (i := 6) (v := ?_) rfl (Or.inl ⟨by rfl, ?_⟩) (by assumption) ?_
  rotate_left
  · (intro w hSw; (try dsimp only at hSw); go_simp; (try with_reducible rfl))
  try simp only [pa, pb, pc, Act.put, pe, pf, pg]
  refine tk (i := 7) (v := ?_) rfl (Or.inl ⟨by rfl, ?_⟩) (by assumption) ?_
  rotate_left
  · (intro w hSw; (try dsimp only at hSw); go_simp; (try with_reducible rfl))
  try simp only [pa, pb, pc, Act.put, pe, pf, pg]
  refine tk (i := 8) (v := ?_) rfl (Or.inl ⟨by rfl, ?_⟩) (by assumption) ?_
  rotate_left
  · (intro w hSw; (try dsimp only at hSw); go_simp; (try with_reducible rfl))
  try simp only [pa, pb, pc, Act.put, pe, pf, pg]
  refine tk (i := 9) (v := ?_) rfl (Or.inl ⟨by rfl, ?_⟩) (by assumption) ?_
  rotate_left
  · (intro w hSw; (try dsimp only at hSw); go_simp; (try with_reducible rfl))
  try simp only [pa, pb, pc, Act.put, pe, pf, pg]
  refine tk (i := 10) (v := ?_) rfl (Or.inl ⟨by rfl, ?_⟩) (by assumption) ?_
  rotate_left
  · (intro w hSw; (try dsimp only at hSw); go_simp; (try with_reducible rfl))
  try simp only [pa, pb, pc, Act.put, pe, pf, pg]
  refine wpAnyH_ready (rs := [11]) (by kernel_rfl) (by simp) (AllReadyH.cons rfl (fun K hK => ?_) AllReadyH.nil)
  go_simp
  refine (HIM.out _).mono ?_
  rintro e w3 ⟨rfl, rfl⟩
  go_wp2_with fail
  refine hK.out _ _ ?_ (fun hHeld => ?_)
  · exact hq2
  clear hK K
  try simp only [pa, pb, pc, Act.put, pe, pf, pg]
  refine tk (i := 12) (v := ?_) rfl (Or.inl ⟨by rfl, ?_⟩) (by assumption) ?_
  rotate_left
  · (intro w hSw; (try dsimp only at hSw); go_simp; (try with_reducible rfl))
  try simp only [pa, pb, pc, Act.put, pe, pf, pg]
  refine tk (i := 13) (v := ?_) rfl (Or.inl ⟨by rfl, ?_⟩) (by assumption) ?_
  rotate_left
  · (intro w hSw; (try dsimp only at hSw); go_simp; (try with_reducible rfl))
  try simp only [pa, pb, pc, Act.put, pe, pf, pg]
  refine wpAnyH_done (by kernel_rfl) ?_ _
  clear hq2
  obtain ⟨g, off, e0, hg, hx, -⟩ := HMD.out _ HX2.out.rd
  go_upto_region 3 with fail
  have HXd := Lib.hid HX2.out.drew
  have HMX := Lib.hid (hx.below (Below.drew (Below.refl _ _)) hx.lt)
  have hq := (show _ from (⟨HXd.out.st.all.2.1, by have h := HXd.out.lk.c2; rwa [e0] at h, HMX.out.c0, HMX.out.c1, HMX.out.c2⟩ : w2.drew.cell? ⟨w.heap.size, 1, none⟩ = some (.int .i64 (j : Int)) ∧ w2.drew.cell? ⟨b, 2, none⟩ = some (.slice (some ⟨g, off, none⟩) v.cs.length v.mc) ∧ w2.drew.cell? ⟨g, off + j * 3, none⟩ = some (.int .i64 c.md.rounds) ∧ w2.drew.cell? ⟨g, off + j * 3 + 1, none⟩ = some (.int .i64 c.md.slots) ∧ w2.drew.cell? ⟨g, off + j * 3 + 2, none⟩ = some (.slice c.ao c.md.next.length c.cap)))
  clear hx
  refine wp_region_held_drew (S := fun w' => w'.cell? ⟨w.heap.size, 1, none⟩ = some (.int .i64 (j : Int)) ∧ w'.cell? ⟨b, 2, none⟩ = some (.slice (some ⟨g, off, none⟩) v.cs.length v.mc) ∧ w'.cell? ⟨g, off + j * 3, none⟩ = some (.int .i64 c.md.rounds) ∧ w'.cell? ⟨g, off + j * 3 + 1, none⟩ = some (.int .i64 c.md.slots) ∧ w'.cell? ⟨g, off + j * 3 + 2, none⟩ = some (.slice c.ao c.md.next.length c.cap)) (by kernel_rfl) (hq) (fun hHeld => ?_)
  generalize w2.drew = wd at HXd HMX hq hHeld ⊢
  refine tk (i := 0) (v := ?_) rfl (Or.inl ⟨by rfl, ?_⟩) (by assumption) ?_
  rotate_left
  · (intro w hSw; (try dsimp only at hSw); go_simp; (try with_reducible rfl))
  try simp only [pa, pb, pc, Act.put, pe, pf, pg]
  refine tk (i := 1) (v := ?_) rfl (Or.inl ⟨by rfl, ?_⟩) (by assumption) ?_
  rotate_left
  · (intro w hSw; (try dsimp only at hSw); go_simp; (try with_reducible rfl))
  try simp only [pa, pb, pc, Act.put, pe, pf, pg]
  refine tk (i := 2) (v := ?_) rfl (Or.inl ⟨by rfl, ?_⟩) (by assumption) ?_
  rotate_left
  · (intro w hSw; (try dsimp only at hSw); go_simp; (try with_reducible rfl))
  try simp only [pa, pb, pc, Act.put, pe, pf, pg]
  refine tk (i := 3) (v := ?_) rfl (Or.inl ⟨by rfl, ?_⟩) (by assumption) ?_
  rotate_left
  · (intro w hSw; (try dsimp only at hSw); go_simp; (try with_reducible rfl))
  try simp only [pa, pb, pc, Act.put, pe, pf, pg]
  refine tk (i := 4) (v := ?_) rfl (Or.inl ⟨by rfl, ?_⟩) (by assumption) ?_
  rotate_left
  · (intro w hSw; (try dsimp only at hSw); go_simp; (try with_reducible rfl))
  try simp only [pa, pb, pc, Act.put, pe, pf, pg]
  refine tk (i := 5) (v := ?_) rfl (Or.inl ⟨by rfl, ?_⟩) (by assumption) ?_
  rotate_left
  · (intro w hSw; (try dsimp only at hSw); go_simp; (try with_reducible rfl))
  try simp only [pa, pb, pc, Act.put, pe, pf, pg]
  refine tk (i := 6) (v := ?_) rfl (Or.inl ⟨by rfl, ?_⟩) (by assumption) ?_
  rotate_left
  · (intro w hSw; (try dsimp only at hSw); go_simp; (try with_reducible rfl))
  try simp only [pa, pb, pc, Act.put, pe, pf, pg]
  refine tk (i := 7) (v := ?_) rfl (Or.inl ⟨by rfl, ?_⟩) (by assumption) ?_
  rotate_left
  · (intro w hSw; (try dsimp only at hSw); go_simp; (try with_reducible rfl))
  try simp only [pa, pb, pc, Act.put, pe, pf, pg]
  refine tk (i := 8) (v := ?_) rfl (Or.inl ⟨by rfl, ?_⟩) (by assumption) ?_
  rotate_left
  · (intro w hSw; (try dsimp only at hSw); go_simp; (try with_reducible rfl))
  try simp only [pa, pb, pc, Act.put, pe, pf, pg]
  have bZ := (Below.refl wd.heap.size wd).alloc (Nat.le_refl _) (.cells #[.int .i64 0, .int .i64 0, .slice none 0 0] 99)
  have HXA := Lib.hid (HXd.out.call bZ)
  have HMA := Lib.hid (HMX.out.below bZ HMX.out.lt)
  have hqA := (show _ from (⟨HXA.out.st.all.2.1, by have h := HXA.out.lk.c2; rwa [e0] at h, HMA.out.c0, HMA.out.c1, HMA.out.c2⟩ : (wd.alloc (.cells #[.int .i64 0, .int .i64 0, .slice none 0 0] 99)).cell? ⟨w.heap.size, 1, none⟩ = some (.int .i64 (j : Int)) ∧ (wd.alloc (.cells #[.int .i64 0, .int .i64 0, .slice none 0 0] 99)).cell? ⟨b, 2, none⟩ = some (.slice (some ⟨g, off, none⟩) v.cs.length v.mc) ∧ (wd.alloc (.cells #[.int .i64 0, .int .i64 0, .slice none 0 0] 99)).cell? ⟨g, off + j * 3, none⟩ = some (.int .i64 c.md.rounds) ∧ (wd.alloc (.cells #[.int .i64 0, .int .i64 0, .slice none 0 0] 99)).cell? ⟨g, off + j * 3 + 1, none⟩ = some (.int .i64 c.md.slots) ∧ (wd.alloc (.cells #[.int .i64 0, .int .i64 0, .slice none 0 0] 99)).cell? ⟨g, off + j * 3 + 2, none⟩ = some (.slice c.ao c.md.next.length c.cap)))
  refine wpAnyH_ready (rs := [9]) (by kernel_rfl) (by simp) (AllReadyH.cons rfl (fun K hK => ?_) AllReadyH.nil)
  go_simp
  refine hK.out _ _ ?_ (fun hHeld => ?_)
  · exact hqA
  clear hK K
  try simp only [pa, pb, pc, Act.put, pe, pf, pg]
  have bS := (Below.refl wd.heap.size wd).alloc (Nat.le_refl _) (.cells #[.int .i64 c.md.rounds, .int .i64 c.md.slots, .slice c.ao c.md.next.length c.cap] 99)
  have HXB := Lib.hid (HXd.out.call bS)
  have HMB := Lib.hid (HMX.out.below bS HMX.out.lt)
  have MC := Lib.hid (McAt.new (T := 99) (c := c) wd)
  have hqB := (show _ from (⟨HXB.out.st.all.2.1, by have h := HXB.out.lk.c2; rwa [e0] at h, HMB.out.c0, HMB.out.c1, HMB.out.c2⟩ : (wd.alloc (.cells #[.int .i64 c.md.rounds, .int .i64 c.md.slots, .slice c.ao c.md.next.length c.cap] 99)).cell? ⟨w.heap.size, 1, none⟩ = some (.int .i64 (j : Int)) ∧ (wd.alloc (.cells #[.int .i64 c.md.rounds, .int .i64 c.md.slots, .slice c.ao c.md.next.length c.cap] 99)).cell? ⟨b, 2, none⟩ = some (.slice (some ⟨g, off, none⟩) v.cs.length v.mc) ∧ (wd.alloc (.cells #[.int .i64 c.md.rounds, .int .i64 c.md.slots, .slice c.ao c.md.next.length c.cap] 99)).cell? ⟨g, off + j * 3, none⟩ = some (.int .i64 c.md.rounds) ∧ (wd.alloc (.cells #[.int .i64 c.md.rounds, .int .i64 c.md.slots, .slice c.ao c.md.next.length c.cap] 99)).cell? ⟨g, off + j * 3 + 1, none⟩ = some (.int .i64 c.md.slots) ∧ (wd.alloc (.cells #[.int .i64 c.md.rounds, .int .i64 c.md.slots, .slice c.ao c.md.next.length c.cap] 99)).cell? ⟨g, off + j * 3 + 2, none⟩ = some (.slice c.ao c.md.next.length c.cap)))
  refine wpAnyH_ready (rs := [10]) (by kernel_rfl) (by simp) (AllReadyH.cons rfl (fun K hK => ?_) AllReadyH.nil)
  go_simp
  refine hK.out _ _ ?_ (fun hHeld => ?_)
  · exact hqB
  clear hK K
  try simp only [pa, pb, pc, Act.put, pe, pf, pg]
  refine wpAnyH_done (by kernel_rfl) ?_ _
  clear hq hqA hqB HXA HMA HXd HMX HMB bZ bS
  obtain ⟨M, hM⟩ : ∃ M, M = wd.heap.size := ⟨_, rfl⟩
  rw [← hM] at MC ⊢
  clear hM
  generalize wd.alloc (.cells #[.int .i64 c.md.rounds, .int .i64 c.md.slots, .slice c.ao c.md.next.length c.cap] 99) = w5 at HXB MC hHeld ⊢
  clear hHeld
  have h := HAC.out
  rw [e0] at h
  have HAC1 := Lib.hid h
  clear h HAC
  go_upto_region 4 with fail
  have HXC := Lib.hid HXB.out.drew
  have MD := Lib.hid (MC.out.below (Below.drew (Below.refl _ _)) MC.out.lt)
  clear HXB MC
  go_region_held3 (fun w' => w'.cell? ⟨w.heap.size, 4, none⟩ = some (.int .i64 k) ∧ w'.cell? ⟨b, 0, none⟩ = some (.int .i64 v.id) ∧ w'.cell? ⟨b, 1, none⟩ = some (.slice v.no v.n.length v.nc) ∧ w'.cell? ⟨b, 2, none⟩ = some (.slice (some ⟨g, off, none⟩) v.cs.length v.mc) ∧ w'.cell? ⟨b, 3, none⟩ = some (.slice v.eo v.e.length v.ec))
    (first | (have h := HXC.out.lk.c2; rw [e0] at h; exact ⟨HXC.out.st.all.2.2.2.2, HXC.out.lk.c0, HXC.out.lk.c1, h, HXC.out.lk.c3⟩) | (have h := HXE.out.lk.c2; rw [e0] at h; exact ⟨HXE.out.st.all.2.2.2.2, HXE.out.lk.c0, HXE.out.lk.c1, h, HXE.out.lk.c3⟩))
    ((go_at_call 169; (with_reducible refine (HAC1.out _ HXC.out.rd).mono ?_); rintro e w6 ⟨rfl, b6⟩; have HXE := Lib.hid (HXC.out.call b6); have ME := Lib.hid (MD.out.below b6 MD.out.lt); clear b6))
  clear HXC MD
  generalize hzz : bits .andNot .i64 k (ac : Int) = zz at HZ ⊢
  have z0 := HXE.out.st.all.2.2.1
  have z1 := HXE.out.st.all.2.2.2.1
  have m0 := ME.out.in_.c0
  have m1 := ME.out.in_.c1
  dsimp only at z0 z1
  clear hzz
  by_cases h1 : r < c.md.rounds
  · by_cases h2 : s < c.md.slots
    · have h3 := HZ.out
      have HG := Lib.hid (show res = decide (k.toNat &&& ac = k.toNat) from by rw [HF.out, decide_eq_true h1, decide_eq_true h2]; rfl)
      generalize decide (k.toNat &&& ac = k.toNat) = q at h3 HG
      go_wp2_with fail
      go_ret
      rw [HG.out]
      exact ⟨rfl, HXE.out.below⟩
    · have HG := Lib.hid (show res = false from by rw [HF.out, decide_eq_true h1, decide_eq_false h2]; rfl)
      clear HF HZ
      go_wp2_with fail
      go_ret
      rw [HG.out]
      exact ⟨rfl, HXE.out.below⟩
  · have HG := Lib.hid (show res = false from by rw [HF.out, decide_eq_false h1]; rfl)
    clear HF HZ
    go_wp2_with fail
    go_ret
    rw [HG.out]
    exact ⟨rfl, HXE.out.below⟩
end

section
open Go.RowKit
structure Bs (w W : World) (B : Nat) (v : Mv) (x : Ss) : Prop where
  bx : Bx 28 w W B v
  st : SsAt W (B + 1) x
section
variable {w W W' : World} {B : Nat} {v : Mv} {x : Ss}
theorem Bs.call (h : Bs w W B v x) (hb : Below W.heap.size W W') : Bs w W' B v x := ⟨h.bx.call hb, StateAt.below h.st hb (StateAt.lt h.st)⟩
theorem Bs.drew (h : Bs w W B v x) : Bs w W.drew B v x := h.call (Below.drew (Below.refl _ _))
theorem Bs.start (hr : RdMe w v) : Bs w ((w.alloc (.cells #[.int .i64 v.id, .slice v.no v.n.length v.nc, .slice v.mo v.cs.length v.mc, .slice v.eo v.e.length v.ec] 28)).alloc (.cells #[.int .i64 x.t, .int .i64 x.m, .int .i64 x.r, .int .i64 x.s, .int .i64 x.k] 30)) w.heap.size v x := by
  have h := (Bx.start (T := 28) hr).call ((Below.refl _ _).alloc (Nat.le_refl _) (.cells #[.int .i64 x.t, .int .i64 x.m, .int .i64 x.r, .int .i64 x.s, .int .i64 x.k] 30))
  refine ⟨h, ?_⟩
  have e : w.heap.size + 1 = (w.alloc (.cells #[.int .i64 v.id, .slice v.no v.n.length v.nc, .slice v.mo v.cs.length v.mc, .slice v.eo v.e.length v.ec] 28)).heap.size := by simp
  rw [e]
  exact StateAt.new _
theorem Bs.m (h : Bs w W B v x) : W.cell? ⟨B, 0, none⟩ = some (.int .i64 v.id) ∧ W.cell? ⟨B, 1, none⟩ = some (.slice v.no v.n.length v.nc) ∧ W.cell? ⟨B, 2, none⟩ = some (.slice v.mo v.cs.length v.mc) ∧ W.cell? ⟨B, 3, none⟩ = some (.slice v.eo v.e.length v.ec) := h.bx.at_.all
theorem Bs.s (h : Bs w W B v x) : W.cell? ⟨B + 1, 0, none⟩ = some (.int .i64 x.t) ∧ W.cell? ⟨B + 1, 1, none⟩ = some (.int .i64 x.m) ∧ W.cell? ⟨B + 1, 2, none⟩ = some (.int .i64 x.r) ∧ W.cell? ⟨B + 1, 3, none⟩ = some (.int .i64 x.s) ∧ W.cell? ⟨B + 1, 4, none⟩ = some (.int .i64 x.k) := SsAt.all h.st
end
theorem codeLu_1 {m : Me} {x : Ss} (h : isMedl m = false) : codeLu m x = 1 := by unfold codeLu; rw [if_pos h]
theorem codeLu_2 {m : Me} {x : Ss} (h : isMedl m = true) (h2 : belongsB m x = false) : codeLu m x = 2 := by unfold codeLu; rw [if_neg (by rw [h]; simp), if_pos h2]
theorem codeLu_0 {m : Me} {x : Ss} (h : isMedl m = true) (h2 : belongsB m x = true) : codeLu m x = 0 := by unfold codeLu; rw [if_neg (by rw [h]; simp), if_neg (by rw [h2]; simp)]
theorem codeLu_yes {m : Me} {x : Ss} (h : codeLu m x = 0) : isMedl m = true ∧ belongsB m x = true := by
  rcases h1 : isMedl m with _ | _
  · rw [codeLu_1 h1] at h; cases h
  · rcases h2 : belongsB m x with _ | _
    · rw [codeLu_2 h1 h2] at h; cases h
    · exact ⟨rfl, rfl⟩
set_option maxRecDepth 100000 in
set_option maxHeartbeats 2000000 in
theorem lookupOf_no (v : Mv) (x : Ss) (w : World) (hr : RdMe w v) (hc : codeLu v.me x ≠ 0) :
    Calls Tryz.prog 70 #[mvVal v, ssVal x] w fun e w' => e = .returned (.tuple #[.pointer none, .int .i64 (codeLu v.me x)]) ∧ Below w.heap.size w w' := by
  have HX := Lib.hid (Bs.start (x := x) hr)
  have HC := Lib.hid (fun W hW => isMedl_any v W hW)
  rcases h1 : isMedl v.me with _ | _
  · have HF := Lib.hid (codeLu_1 (x := x) h1)
    rw [h1] at HC
    clear hr hc h1
    unfold mvVal at HC ⊢
    unfold ssVal
    go_enter Tryz.func70, Tryz.ntmps70
    go_upto_region 1 with fail
    generalize (w.alloc (.cells #[.int .i64 v.id, .slice v.no v.n.length v.nc, .slice v.mo v.cs.length v.mc, .slice v.eo v.e.length v.ec] 28)).alloc (.cells #[.int .i64 x.t, .int .i64 x.m, .int .i64 x.r, .int .i64 x.s, .int .i64 x.k] 30) = w1 at HX ⊢
    obtain ⟨z0, z1, z2, z3⟩ := HX.out.m
    go_wp2_with fail
    refine (HC.out _ HX.out.bx.rd).mono ?_
    rintro e w2 ⟨rfl, b2⟩
    clear z0 z1 z2 z3
    go_wp2_with fail
    go_ret2
    rw [HF.out]
    exact ⟨rfl, (HX.out.call b2).bx.below⟩
  · have h2 : belongsB v.me x = false := by
      rcases h2 : belongsB v.me x with _ | _
      · rfl
      · exact absurd (codeLu_0 h1 h2) hc
    have HF := Lib.hid (codeLu_2 h1 h2)
    have HH := Lib.hid (fun b d sv W hl hW => (by
      have h := luHas_any (b := b) (d := d) (sv := sv) x W hl hW (medl_iff.1 h1)
      rw [h2] at h
      exact h : Calls Tryz.prog 128 #[.pointer (some ⟨b, 0, none⟩), ssVal x] W fun e w' => e = .returned (.bool false) ∧ Below W.heap.size W w'))
    rw [h1] at HC
    clear hr hc h1 h2
    unfold mvVal at HC ⊢
    unfold ssVal at HH ⊢
    go_enter Tryz.func70, Tryz.ntmps70
    go_upto_region 1 with fail
    generalize (w.alloc (.cells #[.int .i64 v.id, .slice v.no v.n.length v.nc, .slice v.mo v.cs.length v.mc, .slice v.eo v.e.length v.ec] 28)).alloc (.cells #[.int .i64 x.t, .int .i64 x.m, .int .i64 x.r, .int .i64 x.s, .int .i64 x.k] 30) = w1 at HX ⊢
    obtain ⟨z0, z1, z2, z3⟩ := HX.out.m
    go_wp2_with fail
    refine (HC.out _ HX.out.bx.rd).mono ?_
    rintro e w2 ⟨rfl, b2⟩
    have HX2 := Lib.hid (HX.out.call b2)
    clear z0 z1 z2 z3 b2 HX
    obtain ⟨z0, z1, z2, z3⟩ := HX2.out.m
    have bL := (Below.refl w2.heap.size w2).alloc (Nat.le_refl _) (.cells #[.int .i64 v.id, .slice v.no v.n.length v.nc, .slice v.mo v.cs.length v.mc, .slice v.eo v.e.length v.ec, .int .u32 0, .int .i32 0, .int .u32 0, .slice none 0 0] 125)
    have HX3 := Lib.hid (HX2.out.call bL)
    have HL3 := Lib.hid (LkAt.new (v := v) (d := 0) (l := 0) (sv := .slice none 0 0) w2)
    have HZ := Lib.hid (Nat.lt_of_le_of_lt (Nat.le_add_right _ _) (StateAt.lt HX2.out.st))
    clear bL
    go_upto_region 4 with fail
    generalize w2.alloc (.cells #[.int .i64 v.id, .slice v.no v.n.length v.nc, .slice v.mo v.cs.length v.mc, .slice v.eo v.e.length v.ec, .int .u32 0, .int .i32 0, .int .u32 0, .slice none 0 0] 125) = w3 at HX3 HL3 ⊢
    clear z0 z1 z2 z3
    obtain ⟨y0, y1, y2, y3, y4⟩ := HX3.out.s
    go_wp2_with fail
    refine (HH.out _ _ _ _ HL3.out HX3.out.bx.rd).mono ?_
    rintro e w4 ⟨rfl, b4⟩
    clear y0 y1 y2 y3 y4
    go_wp2_with fail
    go_ret2
    rw [HF.out]
    exact ⟨rfl, (HX3.out.call b4).bx.below⟩
set_option maxRecDepth 100000 in
set_option maxHeartbeats 2000000 in
theorem lookupOf_yes (v : Mv) (x : Ss) (w : World) (hr : RdMe w v) (hc : codeLu v.me x = 0) :
    Calls Tryz.prog 70 #[mvVal v, ssVal x] w fun e w' => ∃ b, e = .returned (.tuple #[.pointer (some ⟨b, 0, none⟩), .int .i64 0]) ∧ w.heap.size ≤ b ∧ LkAt w' b v 0 0 (.slice none 0 0) ∧ Below w.heap.size w w' := by
  have HX := Lib.hid (Bs.start (x := x) hr)
  have HC := Lib.hid (fun W hW => isMedl_any v W hW)
  obtain ⟨h1, h2⟩ := codeLu_yes hc
  have HH := Lib.hid (fun b d sv W hl hW => (by
    have h := luHas_any (b := b) (d := d) (sv := sv) x W hl hW (medl_iff.1 h1)
    rw [h2] at h
    exact h : Calls Tryz.prog 128 #[.pointer (some ⟨b, 0, none⟩), ssVal x] W fun e w' => e = .returned (.bool true) ∧ Below W.heap.size W w'))
  rw [h1] at HC
  clear hr hc h1 h2
  unfold mvVal at HC ⊢
  unfold ssVal at HH ⊢
  go_enter Tryz.func70, Tryz.ntmps70
  go_upto_region 1 with fail
  generalize (w.alloc (.cells #[.int .i64 v.id, .slice v.no v.n.length v.nc, .slice v.mo v.cs.length v.mc, .slice v.eo v.e.length v.ec] 28)).alloc (.cells #[.int .i64 x.t, .int .i64 x.m, .int .i64 x.r, .int .i64 x.s, .int .i64 x.k] 30) = w1 at HX ⊢
  obtain ⟨z0, z1, z2, z3⟩ := HX.out.m
  go_wp2_with fail
  refine (HC.out _ HX.out.bx.rd).mono ?_
  rintro e w2 ⟨rfl, b2⟩
  have HX2 := Lib.hid (HX.out.call b2)
  clear z0 z1 z2 z3 b2 HX
  obtain ⟨z0, z1, z2, z3⟩ := HX2.out.m
  have bL := (Below.refl w2.heap.size w2).alloc (Nat.le_refl _) (.cells #[.int .i64 v.id, .slice v.no v.n.length v.nc, .slice v.mo v.cs.length v.mc, .slice v.eo v.e.length v.ec, .int .u32 0, .int .i32 0, .int .u32 0, .slice none 0 0] 125)
  have HX3 := Lib.hid (HX2.out.call bL)
  have HL3 := Lib.hid (LkAt.new (v := v) (d := 0) (l := 0) (sv := .slice none 0 0) w2)
  have HZ := Lib.hid (Nat.lt_of_le_of_lt (Nat.le_add_right _ _) (StateAt.lt HX2.out.st))
  clear bL
  go_upto_region 4 with fail
  generalize w2.alloc (.cells #[.int .i64 v.id, .slice v.no v.n.length v.nc, .slice v.mo v.cs.length v.mc, .slice v.eo v.e.length v.ec, .int .u32 0, .int .i32 0, .int .u32 0, .slice none 0 0] 125) = w3 at HX3 HL3 ⊢
  clear z0 z1 z2 z3
  obtain ⟨y0, y1, y2, y3, y4⟩ := HX3.out.s
  go_wp2_with fail
  refine (HH.out _ _ _ _ HL3.out HX3.out.bx.rd).mono ?_
  rintro e w4 ⟨rfl, b4⟩
  have hlt := HL3.out.lt
  clear y0 y1 y2 y3 y4
  go_wp2_with fail
  go_ret2
  exact ⟨_, rfl, Nat.le_of_lt HZ.out, HL3.out.below b4 hlt, (HX3.out.call b4).bx.below⟩
end

section
open Go.RowKit
structure DzL (w W : World) (b : Nat) (v : Mv) (d : Int) (sv : Value) (x : Ss) : Prop where
  ls : Ls w W b v d sv w.heap.size x
  box : DescAt 44 W (w.heap.size + 1) 0 0 0 0 false
  lt : b < w.heap.size
section
variable {w W W' : World} {b : Nat} {v : Mv} {d : Int} {sv : Value} {x : Ss}
theorem DzL.call (h : DzL w W b v d sv x) (hb : Below W.heap.size W W') : DzL w W' b v d sv x := ⟨h.ls.call hb, h.box.below hb h.box.lt, h.lt⟩
theorem DzL.start (hl : LkAt w b v d 0 sv) (hr : RdMe w v) : DzL w ((w.alloc (.cells #[.int .i64 x.t, .int .i64 x.m, .int .i64 x.r, .int .i64 x.s, .int .i64 x.k] 30)).alloc (.cells #[.int .i64 0, .int .i64 0, .int .i64 0, .int .i64 0, .bool false] 44)) b v d sv x := by
  have h := (Ls.start (x := x) hl hr).call ((Below.refl _ _).alloc (Nat.le_refl _) (.cells #[.int .i64 0, .int .i64 0, .int .i64 0, .int .i64 0, .bool false] 44))
  refine ⟨h, ?_, hl.lt⟩
  have e : w.heap.size + 1 = (w.alloc (.cells #[.int .i64 x.t, .int .i64 x.m, .int .i64 x.r, .int .i64 x.s, .int .i64 x.k] 30)).heap.size := by simp
  rw [e]
  exact DescAt.new _
theorem DzL.s (h : DzL w W b v d sv x) : W.cell? ⟨b, 0, none⟩ = some (.int .i64 v.id) ∧ W.cell? ⟨b, 1, none⟩ = some (.slice v.no v.n.length v.nc) ∧ W.cell? ⟨b, 2, none⟩ = some (.slice v.mo v.cs.length v.mc) ∧ W.cell? ⟨b, 3, none⟩ = some (.slice v.eo v.e.length v.ec) ∧ W.cell? ⟨w.heap.size, 0, none⟩ = some (.int .i64 x.t) ∧ W.cell? ⟨w.heap.size, 1, none⟩ = some (.int .i64 x.m) ∧ W.cell? ⟨w.heap.size, 2, none⟩ = some (.int .i64 x.r) ∧ W.cell? ⟨w.heap.size, 3, none⟩ = some (.int .i64 x.s) ∧ W.cell? ⟨w.heap.size, 4, none⟩ = some (.int .i64 x.k) :=
  ⟨h.ls.lk.c0, h.ls.lk.c1, h.ls.lk.c2, h.ls.lk.c3, h.ls.st.all⟩
theorem DzL.fin (h : DzL w W b v d sv x) (y : Ds) : DescAt 44 (setDesc W (w.heap.size + 1) y.node y.kind y.size y.dur y.chg) (w.heap.size + 1) y.node y.kind y.size y.dur y.chg ∧ Below w.heap.size w (setDesc W (w.heap.size + 1) y.node y.kind y.size y.dur y.chg) ∧
    (setDesc W (w.heap.size + 1) y.node y.kind y.size y.dur y.chg).cell? ⟨b, 0, none⟩ = some (.int .i64 v.id) ∧ (setDesc W (w.heap.size + 1) y.node y.kind y.size y.dur y.chg).cell? ⟨b, 1, none⟩ = some (.slice v.no v.n.length v.nc) ∧ (setDesc W (w.heap.size + 1) y.node y.kind y.size y.dur y.chg).cell? ⟨b, 2, none⟩ = some (.slice v.mo v.cs.length v.mc) ∧ (setDesc W (w.heap.size + 1) y.node y.kind y.size y.dur y.chg).cell? ⟨b, 3, none⟩ = some (.slice v.eo v.e.length v.ec) ∧ (setDesc W (w.heap.size + 1) y.node y.kind y.size y.dur y.chg).cell? ⟨w.heap.size, 0, none⟩ = some (.int .i64 x.t) ∧ (setDesc W (w.heap.size + 1) y.node y.kind y.size y.dur y.chg).cell? ⟨w.heap.size, 1, none⟩ = some (.int .i64 x.m) ∧ (setDesc W (w.heap.size + 1) y.node y.kind y.size y.dur y.chg).cell? ⟨w.heap.size, 2, none⟩ = some (.int .i64 x.r) ∧ (setDesc W (w.heap.size + 1) y.node y.kind y.size y.dur y.chg).cell? ⟨w.heap.size, 3, none⟩ = some (.int .i64 x.s) ∧ (setDesc W (w.heap.size + 1) y.node y.kind y.size y.dur y.chg).cell? ⟨w.heap.size, 4, none⟩ = some (.int .i64 x.k) := by
  have hb := below_desc (B := w.heap.size + 1) (w := W) (Nat.le_refl _) y.node y.kind y.size y.dur y.chg
  have h1 := h.ls.lk.below hb (Nat.lt_succ_of_lt h.lt)
  have h2 : SsAt _ w.heap.size x := StateAt.below h.ls.st hb (Nat.lt_succ_self _)
  exact ⟨h.box.five _ _ _ _ _, h.ls.below.trans (hb.mono (Nat.le_succ _)), h1.c0, h1.c1, h1.c2, h1.c3, h2.all⟩
end
set_option linter.unusedSimpArgs false in
set_option maxRecDepth 100000 in
set_option maxHeartbeats 4000000 in
theorem descriptor_any {b : Nat} {v : Mv} {d : Int} {sv : Value} {x : Ss} {j R S r s : Nat} (w : World) (hl : LkAt w b v d 0 sv) (hr : RdMe w v) (hw : Well v.me) (hy : Lies v.me x j R S r s) :
    Calls Tryz.prog 80 #[.pointer (some ⟨b, 0, none⟩), ssVal x] w fun e w' => e = .returned (dsVal (descOf v.me x)) ∧ Below w.heap.size w w' := by
  have HX := Lib.hid (DzL.start (x := x) hl hr)
  have hj : j < v.cs.length := by have e : v.me.modes.length = v.cs.length := mds_len v.cs; have := hy.hj; omega
  have HCY := Lib.hid (fun W (hW : RdMe W v) => cycleOf_any v j W hW hw.full hj)
  have HPL := Lib.hid (fun W hl hW => place_any (b := b) (d := d) (sv := sv) (q := r * S + s) W hl hW hy rfl)
  have hlt := hy.lt
  have he := hy.hm
  rw [hy.desc_]
  change r * S + s < (inMode v.e j).length at hlt
  change Calls _ _ _ _ fun e w' => e = .returned (dsVal (slOf (inMode v.e j) (r * S + s)).desc) ∧ _
  generalize r * S + s = q at HPL hlt ⊢
  generalize inMode v.e j = L at HCY hlt ⊢
  obtain ⟨y, hye⟩ : ∃ y, slOf L q = y := ⟨_, rfl⟩
  rw [hye]
  clear hl hr hw hy hj
  obtain ⟨t, m, r0, s0, k⟩ := x
  dsimp only at he
  subst he
  unfold ssVal at HPL ⊢
  unfold mvVal at HCY
  dsimp only at HPL
  go_enter Tryz.func80, Tryz.ntmps80
  go_upto_region 1 with fail
  dsimp only at HX
  generalize (w.alloc (.cells #[.int .i64 t, .int .i64 (j : Int), .int .i64 r0, .int .i64 s0, .int .i64 k] 30)).alloc (.cells #[.int .i64 0, .int .i64 0, .int .i64 0, .int .i64 0, .bool false] 44) = w1 at HX ⊢
  have HX1 := Lib.hid (HX.out.call (Below.drew (Below.refl w1.heap.size w1)))
  clear HX
  have hq := HX1.out.s
  dsimp only at hq
  refine wp_region_held_drew (S := fun w' => w'.cell? ⟨b, 0, none⟩ = some (.int .i64 v.id) ∧ w'.cell? ⟨b, 1, none⟩ = some (.slice v.no v.n.length v.nc) ∧ w'.cell? ⟨b, 2, none⟩ = some (.slice v.mo v.cs.length v.mc) ∧ w'.cell? ⟨b, 3, none⟩ = some (.slice v.eo v.e.length v.ec) ∧ w'.cell? ⟨w.heap.size, 0, none⟩ = some (.int .i64 t) ∧ w'.cell? ⟨w.heap.size, 1, none⟩ = some (.int .i64 (j : Int)) ∧ w'.cell? ⟨w.heap.size, 2, none⟩ = some (.int .i64 r0) ∧ w'.cell? ⟨w.heap.size, 3, none⟩ = some (.int .i64 s0) ∧ w'.cell? ⟨w.heap.size, 4, none⟩ = some (.int .i64 k)) (by kernel_rfl) (hq) (fun hHeld => ?_)
  generalize w1.drew = wd at HX1 hq hHeld ⊢
  refine tk (i := 0) (v := ?_) rfl (Or.inl ⟨by rfl, ?_⟩) (by assumption) ?_
  rotate_left
  · (intro w hSw; (try dsimp only at hSw); go_simp; (try with_reducible rfl))
  try simp only [pa, pb, pc, Act.put, pe, pf, pg]
  refine tk (i := 1) (v := ?_) rfl (Or.inl ⟨by rfl, ?_⟩) (by assumption) ?_
  rotate_left
  · (intro w hSw; (try dsimp only at hSw); go_simp; (try with_reducible rfl))
  try simp only [pa, pb, pc, Act.put, pe, pf, pg]
  refine tk (i := 2) (v := ?_) rfl (Or.inl ⟨by rfl, ?_⟩) (by assumption) ?_
  rotate_left
  · (intro w hSw; (try dsimp only at hSw); go_simp; (try with_reducible rfl))
  try simp only [pa, pb, pc, Act.put, pe, pf, pg]
  refine tk (i := 3) (v := ?_) rfl (Or.inl ⟨by rfl, ?_⟩) (by assumption) ?_
  rotate_left
  · (intro w hSw; (try dsimp only at hSw); go_simp; (try with_reducible rfl))
  try simp only [pa, pb, pc, Act.put, pe, pf, pg]
  refine tk (i := 4) (v := ?_) rfl (Or.inl ⟨by rfl, ?_⟩) (by assumption) ?_
  rotate_left
  · (intro w hSw; (try dsimp only at hSw); go_simp; (try with_reducible rfl))
  try simp only [pa, pb, pc, Act.put, pe, pf, pg]
  refine tk (i := 5) (v := ?_) rfl (Or.inl ⟨by rfl, ?_⟩) (by assumption) ?_
  rotate_left
  · (intro w hSw; (try dsimp only at hSw); go_simp; (try with_reducible rfl))
  try simp only [pa, pb, pc, Act.put, pe, pf, pg]
  refine tk (i := 7) (v := ?_) rfl (Or.inl ⟨by rfl, ?_⟩) (by assumption) ?_
  rotate_left
  · (intro w hSw; (try dsimp only at hSw); go_simp; (try with_reducible rfl))
  try simp only [pa, pb, pc, Act.put, pe, pf, pg]
  refine tk (i := 8) (v := ?_) rfl (Or.inl ⟨by rfl, ?_⟩) (by assumption) ?_
  rotate_left
  · (intro w hSw; (try dsimp only at hSw); go_simp; (try with_reducible rfl))
  try simp only [pa, pb, pc, Act.put, pe, pf, pg]
  refine wpAnyH_ready (rs := [6]) (by kernel_rfl) (by simp) (AllReadyH.cons rfl (fun K hK => ?_) AllReadyH.nil)
  go_simp
  refine (HCY.out _ HX1.out.ls.rd).mono ?_
  rintro e w2 ⟨so, sc, rfl, srd, -, -, b2⟩
  have HX2 := Lib.hid (HX1.out.call b2)
  have SR2 := Lib.hid srd
  clear b2 srd hq HX1
  have hq := HX2.out.s
  dsimp only at hq
  go_wp2_with fail
  refine hK.out _ _ ?_ (fun hHeld => ?_)
  · exact hq
  clear hK K
  try simp only [pa, pb, pc, Act.put, pe, pf, pg]
  refine wpAnyH_ready (rs := [9]) (by kernel_rfl) (by simp) (AllReadyH.cons rfl (fun K hK => ?_) AllReadyH.nil)
  go_simp
  refine (HPL.out _ HX2.out.ls.lk HX2.out.ls.rd).mono ?_
  rintro e w3 ⟨rfl, b3⟩
  have HX3 := Lib.hid (HX2.out.call b3)
  have SR3 := Lib.hid (SR2.out.below b3)
  clear b3 SR2 hq HX2
  have hq := HX3.out.s
  dsimp only at hq
  go_wp2_with fail
  refine hK.out _ _ ?_ (fun hHeld => ?_)
  · exact hq
  clear hK K
  try simp only [pa, pb, pc, Act.put, pe, pf, pg]
  obtain ⟨g, off, e0, -, hx⟩ := SR3.out.at hlt
  subst e0
  rw [hye] at hx
  obtain ⟨-, -, -, x3, x4, x5, x6, x7⟩ := hx.all8
  clear hx
  refine tk (i := 10) (v := ?_) rfl (Or.inl ⟨by rfl, ?_⟩) (by assumption) ?_
  rotate_left
  · (intro w hSw; (try dsimp only at hSw); go_simp; (try with_reducible rfl))
  try simp only [pa, pb, pc, Act.put, pe, pf, pg]
  refine tk (i := 11) (v := ?_) rfl (Or.inl ⟨by rfl, ?_⟩) (by assumption) ?_
  rotate_left
  · (intro w hSw; (try dsimp only at hSw); go_simp; (try with_reducible rfl))
  try simp only [pa, pb, pc, Act.put, pe, pf, pg]
  refine wpAnyH_ready (rs := [12]) (by kernel_rfl) (by simp) (AllReadyH.cons rfl (fun K hK => ?_) AllReadyH.nil)
  go_simp
  clear x3 x4 x5 x6 x7
  refine hK.out _ _ ?_ (fun hHeld => ?_)
  · exact hq
  clear hK K
  try simp only [pa, pb, pc, Act.put, pe, pf, pg]
  obtain ⟨h1, h2, h3⟩ := HX3.out.fin y.desc
  dsimp only at h3
  have HF1 := Lib.hid h1; have HF2 := Lib.hid h2
  have g0 := HX3.out.box.c0; have g1 := HX3.out.box.c1; have g2 := HX3.out.box.c2; have g3 := HX3.out.box.c3; have g4 := HX3.out.box.c4
  have f0 := HX3.out.box.f 0; have f1 := HX3.out.box.f 1; have f2 := HX3.out.box.f 2; have f3 := HX3.out.box.f 3; have f4 := HX3.out.box.f 4
  clear h1 h2
  refine wpAnyH_ready (rs := [13]) (by kernel_rfl) (by simp) (AllReadyH.cons rfl (fun K hK => ?_) AllReadyH.nil)
  go_simp
  refine hK.out _ _ ?_ (fun hHeld => ?_)
  · exact h3
  clear hK K g0 g1 g2 g3 g4 f0 f1 f2 f3 f4 h3
  try simp only [pa, pb, pc, Act.put, pe, pf, pg]
  refine wpAnyH_done (by kernel_rfl) ?_ _
  go_wp2_with fail
  change bodyPost _ _ _ _ _ (setDesc w3 (w.heap.size + 1) y.desc.node y.desc.kind y.desc.size y.desc.dur y.desc.chg)
  clear hHeld
  generalize setDesc w3 (w.heap.size + 1) y.desc.node y.desc.kind y.desc.size y.desc.dur y.desc.chg = w5 at HF1 HF2 ⊢
  have e0 := HF1.out.c0; have e1 := HF1.out.c1; have e2 := HF1.out.c2; have e3 := HF1.out.c3; have e4 := HF1.out.c4
  exact bodyPost_ret (v := dsVal y.desc) (by simp [dsVal, results, Tryz.results80, go_sem, e0, e1, e2, e3, e4]) rfl ⟨rfl, HF2.out⟩
end
end Go.Proofs.YthihjhidjnadaaaGreat
