/-
  The draws of chapter 2: spec.l02Draw, l02DrawSeed.
  spec.l02DrawSeed; the draws of the laws of chapter 2 out of a code.
  spec.DrawCrcOfBits, DrawCrcOfBytes and what stands on them.
  spec.DrawSeedAfter, DrawAppendCrc, DrawSyndromeOf, DrawHasCrc.
-/
import Derived.Test.YtfmbefmiglpijaaTwoB
import Derived.Test.YtfmbefmiglpijaaDrawA
import Derived.Deep.RegionWith
import Derived.Handy
import Derived.Deep.DeepCutAuto
import Derived.Deep.CutBlock
namespace Go.Proofs.Ytfmbefmiglpijaa
section
open Go.RowKit

/-- Block b holds a struct of two numbers. -/
def StructAt (T : Nat) (w : World) (b : Nat) (x y : Int) : Prop := w.heap[b]? = some (.cells #[.int .i64 x, .int .i64 y] T (0, 0))
section
variable {T b p : Nat} {w w' : World} {x y : Int}
theorem StructAt.c0 (h : StructAt T w b x y) : w.cell? ⟨b, 0, none⟩ = some (.int .i64 x) := cell_of_row w b 0 _ _ (0, 0) h
theorem StructAt.c1 (h : StructAt T w b x y) : w.cell? ⟨b, 1, none⟩ = some (.int .i64 y) := cell_of_row w b 1 _ _ (0, 0) h
theorem StructAt.f0 (h : StructAt T w b x y) (i : Nat) : w.frozen? ⟨b, i, none⟩ = false := frozen_of_row w b i _ _ h
theorem StructAt.lt (h : StructAt T w b x y) : b < w.heap.size := (Array.getElem?_eq_some_iff.1 h).1
theorem StructAt.grown {g : Option Nat} (h : StructAt T w b x y) (hg : w.grownBy w' g) (hne : some b ≠ g) : StructAt T w' b x y := (hg.block b h.lt hne).trans h
theorem StructAt.below {B : Nat} (h : StructAt T w b x y) (hb : Below B w w') (hlt : b < B) : StructAt T w' b x y := (hb.block b hlt).trans h
theorem StructAt.new (w : World) : StructAt T (w.alloc (.cells #[.int .i64 x, .int .i64 y] T)) w.heap.size x y := heap_alloc_new w _
theorem StructAt.set0 (h : StructAt T w b x y) (z : Int) : StructAt T (w.setCell ⟨b, 0, none⟩ (.int .i64 z)) b z y := by
  have := heap_setCell_same w b 0 _ _ (.int .i64 z) h
  simpa [StructAt] using this
theorem StructAt.set1 (h : StructAt T w b x y) (z : Int) : StructAt T (w.setCell ⟨b, 1, none⟩ (.int .i64 z)) b x z := by
  have := heap_setCell_same w b 1 _ _ (.int .i64 z) h
  simpa [StructAt] using this
end
/-- What a draw of a code leaves: some struct; of old memory only the source has been written. -/
def DrawnCrc (T : Nat) (w : World) (p : Nat) (e : Ending) (w' : World) : Prop :=
  ∃ wd pl : Int, e = .returned (.agg #[.int .i64 wd, .int .i64 pl]) ∧ Src T w' p ∧ w.grownBy w' (some p)

/-- Entry z of a table of three. -/
def tab3 (a b c : Int) (z : Nat) : Int := if z = 0 then a else if z = 1 then b else c
theorem tab3_cell {w w' : World} {T p : Nat} {a b c : Int} (hg : (w.alloc (.cells #[.int .i64 a, .int .i64 b, .int .i64 c] T)).grownBy w' (some p)) (hp : p < w.heap.size) (z : Nat) (hz : z < 3) : w'.cell? ⟨w.heap.size, z, none⟩ = some (.int .i64 (tab3 a b c z)) := by
  rw [table_cell hg hp z]
  match z, hz with
  | 0, _ | 1, _ | 2, _ => rfl
theorem tab3_list (a b c : Int) (z : Nat) (hz : z < 3) : ([.int .i64 a, .int .i64 b, .int .i64 c] : List Value)[z]? = some (.int .i64 (tab3 a b c z)) := by
  match z, hz with
  | 0, _ | 1, _ | 2, _ => rfl
theorem tab3_arr (a b c : Int) (z : Nat) (hz : z < 3) : (#[.int .i64 a, .int .i64 b, .int .i64 c] : Array Value)[z]? = some (.int .i64 (tab3 a b c z)) := by
  match z, hz with
  | 0, _ | 1, _ | 2, _ => rfl
theorem tab3_alloc (a b c : Int) (z : Nat) (hz : z < 3) (T : Nat) : ∀ W : World, (W.alloc (.cells #[.int .i64 a, .int .i64 b, .int .i64 c] T)).cell? ⟨W.heap.size, z, none⟩ = some (.int .i64 (tab3 a b c z)) := fun W => by
  rw [World.cell?_alloc_at _ _ _ _ rfl]; exact tab3_arr a b c z hz
/-- What the statement that turns the polynomial leaves. -/
def DrawMid (T2 T : Nat) (w : World) (p C : Nat) (wx : World) : Prop :=
  ∃ wy, wy = wx ∧ ∃ x v : Int, StructAt T wy C x v ∧ StructAt T wy w.heap.size 0 0 ∧ Src T2 wy p ∧ w.grownBy wy (some p)
theorem draw_mid_alloc {T2 T p C : Nat} {W o v : Int} {w w6 : World} {X : Obj} (hC : StructAt T w6 C W o) (hR : StructAt T w6 w.heap.size 0 0) (hS : Src T2 w6 p) (hG : w.grownBy w6 (some p)) (hp : p < w.heap.size) (hlt : w.heap.size < C) :
    DrawMid T2 T w p C ((w6.alloc X).setCell ⟨C, 1, none⟩ (.int .i64 v)) := by
  have b7 : Below w6.heap.size w6 (w6.alloc X) := (Below.refl _ _).alloc (Nat.le_refl _) _
  have hs := hG.size
  have b8 : Below w.heap.size (w6.alloc X) ((w6.alloc X).setCell ⟨C, 1, none⟩ (.int .i64 v)) := (Below.refl _ _).setCell (by simp; omega) _
  exact ⟨_, rfl, W, v, (hC.below b7 hC.lt).set1 v, (heap_setCell_other _ _ _ _ (by simp; omega)).trans (hR.below b7 hR.lt), (hS.below b7).belowB b8 hp, grown_step (grown_step hG b7 hs) b8 (Nat.le_refl _)⟩
theorem grown_undrew {a b : World} {g : Option Nat} (h : a.drew.grownBy b g) : a.grownBy b g := ⟨h.os, h.tape, h.output, h.size, h.block⟩
set_option maxRecDepth 20000 in
set_option maxHeartbeats 1000000 in
theorem draw_any (p : Nat) (w : World) (hs : Src 94 w p) :
    Calls Try.prog 65 #[.pointer (some ⟨p, 0, none⟩)] w (DrawnCrc 94 w p) := by
  have hp := hs.lt
  have hne : w.heap.size ≠ p := by omega
  have hb0 : Below w.heap.size w (w.alloc (.cells #[.int .i64 0, .int .i64 0] 25)) := (Below.refl _ _).alloc (Nat.le_refl _) _
  have HB := Lib.hid hb0; clear hb0
  go_enter Try.func65, Try.ntmps65
  go_wp2_with fail
  refine (next_any _ _ _ (hs.below HB.out) (by omega)).mono ?_
  rintro e w1 ⟨k, rfl, hk0, hk1, -, hs1, g1⟩
  have hR := (StructAt.new (T := 25) (x := 0) (y := 0) w).grown g1 (by simp; omega)
  replace g1 := grown_trans (grown_of_below HB.out) g1
  by_cases hk : k = 0
  · subst hk
    go_wp2_with fail
    refine (sStandardCrc_any _).mono ?_
    rintro e w2 ⟨rfl, b2⟩
    have hR2 := hR.below b2 hR.lt
    have hc0 := hR2.c0
    have hc1 := hR2.c1
    have hf0 := hR2.f0 0
    have hf1 := hR2.f0 1
    have g2 := grown_trans g1 (grown_of_below b2)
    have hs2 := hs1.below b2
    have G2 := Lib.hid g2; clear g2 g1
    have S2 := Lib.hid hs2; clear hs2 hs1 hs
    have R2 := Lib.hid hR2; clear hR2 hR
    go_wp2_with fail
    have h3 : Below w.heap.size w2 ((w2.setCell ⟨w.heap.size, 0, none⟩ (.int .i64 24)).setCell ⟨w.heap.size, 1, none⟩ (.int .i64 6122955)) := ((Below.refl _ _).setCell (by simp) _).setCell (by simp) _
    have hR3 := (R2.out.set0 24).set1 6122955
    have hd0 := hR3.c0
    have hd1 := hR3.c1
    clear hc0 hc1 hf0 hf1 hR3
    exact bodyPost_ret (v := .agg #[.int .i64 24, .int .i64 6122955]) (by simp [results, Try.results65, go_sem, hd0, hd1]) rfl ⟨_, _, rfl, S2.out.belowB h3 hp, grown_step G2.out h3 (Nat.le_refl _)⟩
  · have t0 : (k == 0) = false := by simp [hk]
    clear hk
    have hw1 := g1.size
    have R1 := Lib.hid hR; clear hR
    go_wp2_with fail
    refine (next_any _ _ _ hs1 (by omega)).mono ?_
    rintro e w2 ⟨m, rfl, hm0, hm1, -, hs2, g2⟩
    replace R1 := Lib.hid (R1.out.grown g2 (by simp; omega))
    replace g2 := grown_trans g1 g2
    have hm2 : m < 8 := hm1 (by omega)
    obtain ⟨m, rfl⟩ := Int.eq_ofNat_of_zero_le hm0
    have hm3 : m < 8 := by omega
    clear g1 hs1 hs hm0 hm1 hm2 hk0 hk1
    have hw2 := g2.size
    have hlt2 : w.heap.size < w2.heap.size := R1.out.lt
    obtain ⟨W, hW⟩ : ∃ W : Nat, W = 3 + m := ⟨_, rfl⟩
    have hWI : 3 + (m : Int) = (W : Int) := by omega
    have hW3 : W ≤ 10 := by omega
    have hpw := pow40 W (by omega)
    clear hm3 hW hlt2 hw2 hw1
    go_wp2_with fail
    have hp2 : p < w2.heap.size := hs2.lt
    refine (next_any _ _ _ (hs2.below ((Below.refl _ _).alloc (Nat.le_refl _) _)) (by omega)).mono ?_
    rintro e w3 ⟨z, rfl, -, -, -, hs3, g3⟩
    have C3 := Lib.hid ((StructAt.new (T := 25) (x := (W : Int)) (y := 0) w2).grown g3 (by simp; omega))
    have R3 := Lib.hid ((R1.out.below (B := w2.heap.size) ((Below.refl _ _).alloc (Nat.le_refl _) (.cells #[.int .i64 (W : Int), .int .i64 0] 25)) R1.out.lt).grown g3 (by simp; omega))
    have G3 := Lib.hid (grown_trans (grown_trans g2 (grown_of_below ((Below.refl _ _).alloc (Nat.le_refl _) _))) g3)
    have S3 := Lib.hid hs3
    have hlt2 : w.heap.size < w2.heap.size := R1.out.lt
    have hCp : some w2.heap.size ≠ some p := by simp; omega
    have hCR : w2.heap.size ≠ w.heap.size := by omega
    clear R1 g2 hs2 hs3 g3
    obtain ⟨o, ho⟩ : ∃ o, o = bits .or .i64 z 1 := ⟨_, rfl⟩
    have hc0 := C3.out.c0
    have hc1 := C3.out.c1
    have hf1 := C3.out.f0 1
    go_wp2_with fail
    rw [← ho]
    clear hc0 hc1 hf1 ho
    obtain ⟨C, hC⟩ : ∃ C, C = w2.heap.size := ⟨_, rfl⟩
    rw [← hC] at C3 hlt2 hCp hCR ⊢
    have hb4 : Below w.heap.size w3 (w3.setCell ⟨C, 1, none⟩ (.int .i64 o)) := (Below.refl _ _).setCell (by simp; omega) _
    have C4 := Lib.hid (C3.out.set1 o)
    have R4 := Lib.hid (show StructAt 25 (w3.setCell ⟨C, 1, none⟩ (.int .i64 o)) w.heap.size 0 0 from (heap_setCell_other _ _ _ _ (by simp; omega)).trans R3.out)
    have G4 := Lib.hid (grown_step G3.out hb4 (Nat.le_refl _))
    have S4 := Lib.hid (S3.out.belowB hb4 hp)
    generalize w3.setCell ⟨C, 1, none⟩ (.int .i64 o) = w4 at C4 R4 G4 S4 ⊢
    clear C3 R3 G3 S3 hb4 hC
    refine (next_any _ _ _ S4.out (by omega)).mono ?_
    rintro e w5 ⟨y, rfl, hy0, hy1, -, hs5, g5⟩
    have C5 := Lib.hid (C4.out.grown g5 hCp)
    have R5 := Lib.hid (R4.out.grown g5 (by simp; omega))
    have G5 := Lib.hid (grown_trans G4.out g5)
    have S5 := Lib.hid hs5
    clear C4 R4 G4 S4 hs5 g5
    have hc0 := C5.out.c0
    have hc1 := C5.out.c1
    have hf0 := C5.out.f0 0
    have hf1 := C5.out.f0 1
    have hr0 := R5.out.c0
    have hr1 := R5.out.c1
    have hq0 := R5.out.f0 0
    have hq1 := R5.out.f0 1
    go_upto_block 0 with fail
    go_cut [] (fun wx => DrawMid 94 25 w p C wx)
    case first =>
      by_cases hy : y = 0
      · subst hy
        have hba := fun ob => ((Below.refl w5.heap.size w5).alloc (Nat.le_refl _) ob)
        have HBA := Lib.hid hba; clear hba
        go_wp2_with fail
        refine (next_any _ _ _ (S5.out.below (HBA.out _)) (by omega)).mono ?_
        rintro e w6 ⟨u, rfl, hu0, hu1, -, hs6, g6⟩
        obtain ⟨u, rfl⟩ := Int.eq_ofNat_of_zero_le hu0
        have hu3 : u < 3 := by have := hu1 (by omega); omega
        have ht := tab3_cell g6 S5.out.lt u hu3
        obtain ⟨tv, htv⟩ : ∃ tv, tv = tab3 2 24 25 u := ⟨_, rfl⟩
        rw [← htv] at ht
        have C6 := Lib.hid ((C5.out.below (HBA.out _) C5.out.lt).grown g6 hCp)
        have R6 := Lib.hid ((R5.out.below (HBA.out _) R5.out.lt).grown g6 (by simp; omega))
        have G6 := Lib.hid (grown_trans (grown_trans G5.out (grown_of_below (HBA.out _))) g6)
        have S6 := Lib.hid hs6
        clear hc0 hc1 hf0 hf1 hr0 hr1 hq0 hq1 hs6 g6 C5 R5 G5 S5 hu0 hu1 htv HBA
        have hc0 := C6.out.c0
        have hc1 := C6.out.c1
        have hf0 := C6.out.f0 0
        have hf1 := C6.out.f0 1
        have hr0 := R6.out.c0
        have hr1 := R6.out.c1
        have hq0 := R6.out.f0 0
        have hq1 := R6.out.f0 1
        have hu4 : (u : Int) < 3 := by omega
        go_wp2_with fail
        go_meet
        exact ⟨_, rfl, tv, _, C6.out.set0 tv, (heap_setCell_other _ _ _ _ (by simp; omega)).trans R6.out, S6.out.belowB ((Below.refl w.heap.size _).setCell (by simp; omega) _) hp, grown_step G6.out ((Below.refl w.heap.size _).setCell (by simp; omega) _) (Nat.le_refl _)⟩
      · have t1 : (y == 0) = false := by simp [hy]
        by_cases hy' : y = 1
        · subst hy'
          have hba := fun ob => ((Below.refl w5.heap.size w5).alloc (Nat.le_refl _) ob)
          have HBA := Lib.hid hba; clear hba
          go_wp2_with fail
          have hcw1 : ∀ X : Obj, (w5.alloc X).cell? ⟨C, 1, none⟩ = some (.int .i64 o) := fun X => C5.out.below ((Below.refl w5.heap.size w5).alloc (Nat.le_refl _) X) C5.out.lt |>.c1
          have hcw0 : ∀ X : Obj, (w5.alloc X).cell? ⟨C, 0, none⟩ = some (.int .i64 (W : Int)) := fun X => C5.out.below ((Below.refl w5.heap.size w5).alloc (Nat.le_refl _) X) C5.out.lt |>.c0
          have hu64 : IntKind.u64.wrap (W : Int) = (W : Int) := by rw [IntKind.wrap_u64]; omega
          have hmin : min W 64 = W := by omega
          have hp64 : IntKind.i64.wrap ((2 : Int) ^ W) = 2 ^ W := by rw [IntKind.wrap_i64]; omega
          go_region_with (first
            | (go_at_call 72; refine (next_any _ _ _ (S5.out.below (by go_grown)) (by omega)).mono ?_; rintro e w6 ⟨u, rfl, hu0, hu1, -, hs6, g6⟩; obtain ⟨u, rfl⟩ := Int.eq_ofNat_of_zero_le hu0; have hu3 : u < 3 := (by have := hu1 (by omega); omega); have hu4 : (u : Int) < 3 := (by omega); have htl := tab3_list 1 (-1) (2 ^ W) u hu3; have hta := tab3_arr 1 (-1) (2 ^ W) u hu3; have htab := tab3_alloc 1 (-1) (2 ^ W) u hu3 2; have G6 := grown_trans (grown_of_below (w := w5) (g := some p) (by go_grown)) g6; have C6 := C5.out.grown G6 hCp; have hc0' := C6.c0; have hc1' := C6.c1; have hf0' := C6.f0 0; have hf1' := C6.f0 1; have hfal : ∀ X : Obj, (w6.alloc X).frozen? ⟨C, 1, none⟩ = false := (fun X => C6.below ((Below.refl w6.heap.size w6).alloc (Nat.le_refl _) X) C6.lt |>.f0 1); have hcal : ∀ X : Obj, (w6.alloc X).cell? ⟨C, 1, none⟩ = some (.int .i64 o) := (fun X => C6.below ((Below.refl w6.heap.size w6).alloc (Nat.le_refl _) X) C6.lt |>.c1); have hcal0 : ∀ X : Obj, (w6.alloc X).cell? ⟨C, 0, none⟩ = some (.int .i64 (W : Int)) := (fun X => C6.below ((Below.refl w6.heap.size w6).alloc (Nat.le_refl _) X) C6.lt |>.c0); have R6 := Lib.hid (R5.out.grown G6 (by simp; omega)); have H6 := Lib.hid (grown_trans G5.out G6); have S6 := Lib.hid hs6; have D6 := Lib.hid C6; try (have hct : w6.cell? ⟨w5.heap.size, u, none⟩ = some (.int .i64 (tab3 1 (-1) (2 ^ W) u)) := tab3_cell (grown_undrew g6) S5.out.lt u hu3); clear hs6 g6 G6 C6))
          all_goals
            go_wp2_with fail
            go_meet
            first
            | exact ⟨_, rfl, _, _, D6.out.set1 _, (heap_setCell_other _ _ _ _ (by simp; omega)).trans R6.out, S6.out.belowB ((Below.refl w.heap.size _).setCell (by simp; omega) _) hp, grown_step H6.out ((Below.refl w.heap.size _).setCell (by simp; omega) _) (Nat.le_refl _)⟩
            | exact draw_mid_alloc D6.out R6.out S6.out H6.out hp hlt2
        · have t2 : (y == 1) = false := by simp [hy']
          clear hy hy'
          go_wp2_with fail
          go_meet
          exact ⟨_, rfl, _, _, C5.out, R5.out, S5.out, G5.out⟩
    case rest =>
      obtain ⟨wx, rfl, x, v, C7, R7, S7, G7⟩ := hcut
      clear hc0 hc1 hf0 hf1 hr0 hr1 hq0 hq1
      have hc0 := C7.c0
      have hc1 := C7.c1
      have hr0 := R7.c0
      have hr1 := R7.c1
      have hq0 := R7.f0 0
      have hq1 := R7.f0 1
      have C7 := Lib.hid C7
      have R7 := Lib.hid R7
      go_wp2
      clear hc0 hc1 hr0 hr1 hq0 hq1
      have h6 : Below w.heap.size (wx) (((wx).setCell ⟨w.heap.size, 0, none⟩ (.int .i64 x)).setCell ⟨w.heap.size, 1, none⟩ (.int .i64 v)) := ((Below.refl _ _).setCell (by simp) _).setCell (by simp) _
      have hR6 := (R7.out.set0 x).set1 v
      have hd0 := hR6.c0
      have hd1 := hR6.c1
      exact bodyPost_ret (v := .agg #[.int .i64 x, .int .i64 v]) (by simp [results, Try.results65, go_sem, hd0, hd1]) rfl ⟨_, _, rfl, (S7).belowB h6 hp, grown_step (G7) h6 (Nat.le_refl _)⟩
end

section
open Go.RowKit

/-- What a draw of a number leaves. -/
def DrawnNum (T : Nat) (w : World) (p : Nat) (e : Ending) (w' : World) : Prop := ∃ x : Int, e = .returned (.int .i64 x) ∧ Src T w' p ∧ w.grownBy w' (some p)
end

section
open Go.RowKit

/-- The code reads on while the call makes memory of its own. -/
theorem rdB_grow {w w' : World} {n : Nat} {ao : Option Addr} {cs : List Int} (h : RdB w w.heap.size ao n cs) (b : Below w.heap.size w w') : RdB w' w'.heap.size ao n cs := by
  have h1 := h.keep (w' := w') fun b' o hb => b.cell (p := ⟨b', o, none⟩) hb
  exact ⟨h1.len, fun hn => by
    obtain ⟨b', off, e, hb, hc⟩ := h1.here hn
    exact ⟨b', off, e, Nat.lt_of_lt_of_le hb b.size, hc⟩, h1.bound⟩
/-- What a draw of a code, a seed and a list leaves. -/
def DrawnCSL (E : Nat) (w : World) (e : Ending) (w' : World) : Prop :=
  ∃ (wd pl s : Int) (v : Value) (xs : List Int), e = .returned (.tuple #[.agg #[.int .i64 wd, .int .i64 pl], .int .i64 s, v]) ∧ Own E w' w.heap.size v xs ∧ xs.length ≤ 9000 ∧ Below w.heap.size w w'
/-- Stores into an older block leave what is owned. -/
theorem own_far {E R base : Nat} {w : World} {v a b : Value} {xs : List Int} (h : Own E w base v xs) (hlt : R < base) : Own E ((w.setCell ⟨R, 0, none⟩ a).setCell ⟨R, 1, none⟩ b) base v xs := by
  have g : w.grownBy ((w.setCell ⟨R, 0, none⟩ a).setCell ⟨R, 1, none⟩ b) (some R) :=
    ⟨rfl, rfl, rfl, by simp [World.setCell], fun k _ hk => (heap_setCell_other _ ⟨R, 1, none⟩ k _ (fun e => hk (by simp [e]))).trans (heap_setCell_other _ ⟨R, 0, none⟩ k _ (fun e => hk (by simp [e])))⟩
  refine h.only g ?_
  cases hk : v.ownBlock with
  | none => exact .inl rfl
  | some k => exact .inr (fun e => by cases e; have := (h.block _ hk).1; omega)
theorem struct_block {T : Nat} {w w' : World} {b B : Nat} {x y : Int} (h : StructAt T w b x y) (hb : Below B w w') (hlt : b < B) : StructAt T w' b x y := h.below hb hlt

end

section
open Go.RowKit

/-- What a draw of a code and a list leaves. -/
def DrawnCL (E : Nat) (w : World) (e : Ending) (w' : World) : Prop :=
  ∃ (wd pl : Int) (v : Value) (xs : List Int), e = .returned (.tuple #[.agg #[.int .i64 wd, .int .i64 pl], v]) ∧ Own E w' w.heap.size v xs ∧ xs.length ≤ 9000 ∧ Below w.heap.size w w'
end
end Go.Proofs.Ytfmbefmiglpijaa
