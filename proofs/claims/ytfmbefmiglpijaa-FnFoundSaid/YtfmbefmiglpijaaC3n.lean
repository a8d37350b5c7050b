/-
  Chapter 3: spec.DrawLeastWeight, DrawFirstMissed; what FnLeastMissed says.
-/
import Derived.Test.YtfmbefmiglpijaaC3i
import Derived.Test.YtfmbefmiglpijaaC3l
import Derived.Test.YtfmbefmiglpijaaC3m
namespace Go.Proofs.Ytfmbefmiglpijaa
open Go.RowKit

/-- What a draw of a code and a number leaves. -/
def DrawnCI (w : World) (e : Ending) (w' : World) : Prop :=
  ∃ wd pl sp : Int, e = .returned (.tuple #[.agg #[.int .i64 wd, .int .i64 pl], .int .i64 sp]) ∧ Below w.heap.size w w'
def tab4 (a b c d : Int) (z : Nat) : Int := if z = 0 then a else if z = 1 then b else if z = 2 then c else d
theorem tab4_arr (a b c d : Int) (z : Nat) (hz : z < 4) : (#[.int .i64 a, .int .i64 b, .int .i64 c, .int .i64 d] : Array Value)[z]? = some (.int .i64 (tab4 a b c d z)) := by
  match z, hz with
  | 0, _ | 1, _ | 2, _ | 3, _ => rfl
theorem tab4_cell {w w' : World} {T p : Nat} {a b c d : Int} (hg : (w.alloc (.cells #[.int .i64 a, .int .i64 b, .int .i64 c, .int .i64 d] T)).grownBy w' (some p)) (hp : p < w.heap.size) (z : Nat) (hz : z < 4) : w'.cell? ⟨w.heap.size, z, none⟩ = some (.int .i64 (tab4 a b c d z)) := by
  rw [table_cell hg hp z]; exact tab4_arr a b c d z hz

theorem tab4_late {R : Nat} {a b : Value} (z : Nat) (hz : z < 4) (T : Nat) (w : World) : (((w.setCell ⟨R, 0, none⟩ a).setCell ⟨R, 1, none⟩ b).alloc (.cells #[.int .i64 0, .int .i64 1, .int .i64 64, .int .i64 65] T)).cell? ⟨w.heap.size, z, none⟩ = some (.int .i64 (tab4 0 1 64 65 z)) := by
  have e : ((w.setCell ⟨R, 0, none⟩ a).setCell ⟨R, 1, none⟩ b).heap.size = w.heap.size := by simp [World.setCell]
  rw [World.cell?_alloc_at _ _ _ _ e.symm]; exact tab4_arr 0 1 64 65 z hz
theorem cell_far {w : World} {b i R : Nat} {a0 a1 v : Value} (hne : b ≠ R) (h : w.cell? ⟨b, i, none⟩ = some v) : ((w.setCell ⟨R, 0, none⟩ a0).setCell ⟨R, 1, none⟩ a1).cell? ⟨b, i, none⟩ = some v := by
  rw [World.cell?_of_block (a := ⟨b, i, none⟩) ((heap_setCell_other (w.setCell ⟨R, 0, none⟩ a0) ⟨R, 1, none⟩ b a1 (by simpa using hne)).trans (heap_setCell_other w ⟨R, 0, none⟩ b a0 (by simpa using hne)))]
  exact h
theorem tab4_list (z : Nat) (hz : z < 4) : ([.int .i64 0, .int .i64 1, .int .i64 64, .int .i64 65] : List Value)[z]? = some (.int .i64 (tab4 0 1 64 65 z)) := by
  match z, hz with
  | 0, _ | 1, _ | 2, _ | 3, _ => rfl
theorem tab4_alloc (z : Nat) (hz : z < 4) (T : Nat) : ∀ W : World, (W.alloc (.cells #[.int .i64 0, .int .i64 1, .int .i64 64, .int .i64 65] T)).cell? ⟨W.heap.size, z, none⟩ = some (.int .i64 (tab4 0 1 64 65 z)) := fun W => by
  rw [World.cell?_alloc_at _ _ _ _ rfl]; exact tab4_arr 0 1 64 65 z hz

set_option maxHeartbeats 800000 in
set_option maxRecDepth 100000 in
theorem drawLeastWeight_any (ao : Option Addr) (n cap : Nat) (cs : List Int) (w : World) (hr : RdB w w.heap.size ao n cs) (hn : n ≤ 1048576) :
    Calls Try.prog 58 #[.slice ao n cap] w (DrawnCI w) := by
  have hb0 : Below w.heap.size w (w.alloc (.cells #[.int .i64 0, .int .i64 0] 25)) := (Below.refl _ _).alloc (Nat.le_refl _) _
  have hR0 : StructAt 25 (w.alloc (.cells #[.int .i64 0, .int .i64 0] 25)) w.heap.size 0 0 := StructAt.new w
  have hr0 := rdB_grow hr hb0
  have hsz : (w.alloc (.cells #[.int .i64 0, .int .i64 0] 25)).heap.size = w.heap.size + 1 := by simp
  have HB := Lib.hid hb0; clear hb0
  have HR := Lib.hid hr0; clear hr0 hr
  have HR0 := Lib.hid hR0; clear hR0
  have HSZ := Lib.hid hsz; clear hsz
  go_enter Try.func58, Try.ntmps58
  go_wp2_with fail
  generalize w.alloc (.cells #[.int .i64 0, .int .i64 0] 25) = w0 at HB HR HR0 HSZ ⊢
  refine (from_any _ _ _ cs _ HR.out hn).mono ?_
  rintro e w1 ⟨p, rfl, hlo, hs1, hb1⟩
  have H : HeldS 2 94 w0 w1 p [] := HeldS.start hb1 hlo hs1
  clear hlo hs1 hb1
  go_wp2_with fail
  refine (draw_any _ _ H.src).mono ?_
  rintro e w2 ⟨wd, pl, rfl, hs2, g2⟩
  replace H := H.next hs2 g2
  clear hs2 g2
  have hba := fun ob => (Below.refl w2.heap.size w2).alloc (Nat.le_refl _) ob
  have HBA := Lib.hid hba; clear hba
  have hC : StructAt 25 (w2.alloc (.cells #[.int .i64 wd, .int .i64 pl] 25)) w2.heap.size wd pl := StructAt.new w2
  have HC := Lib.hid hC; clear hC
  have hpl := H.src.lt
  have hsz2 := H.below.size
  go_wp2_with fail
  refine (next_any _ _ _ (H.still (HBA.out _)).src (by omega)).mono ?_
  rintro e w3 ⟨y, rfl, -, -, -, hs3, g3⟩
  have C3 := Lib.hid (HC.out.grown g3 (by simp; omega))
  replace H := (H.still (HBA.out _)).next hs3 g3
  obtain ⟨C, hCC⟩ : ∃ C, C = w2.heap.size := ⟨_, rfl⟩
  have hCR : C ≠ w.heap.size := by have := HSZ.out; omega
  have hCp : some C ≠ some p := by simp; omega
  rw [← hCC] at C3 ⊢
  clear HC hs3 g3 HBA hpl hsz2 hCC
  by_cases h0 : y = 0
  · subst h0
    have hpl := H.src.lt
    have hcw1 : ∀ X : Obj, (w3.alloc X).cell? ⟨C, 1, none⟩ = some (.int .i64 pl) := fun X => C3.out.below ((Below.refl w3.heap.size w3).alloc (Nat.le_refl _) X) C3.out.lt |>.c1
    have hcw0 : ∀ X : Obj, (w3.alloc X).cell? ⟨C, 0, none⟩ = some (.int .i64 wd) := fun X => C3.out.below ((Below.refl w3.heap.size w3).alloc (Nat.le_refl _) X) C3.out.lt |>.c0
    have hc0 := C3.out.c0
    have hc1 := C3.out.c1
    have HS := Lib.hid H; clear H
    have hRC : w.heap.size ≠ C := fun e => hCR e.symm
    have hne3 : w3.heap.size ≠ w.heap.size := by have := HS.out.below.size; have := HSZ.out; omega
    go_wp2_with fail
    go_region_with (first
      | (go_at_call 72; refine (next_any p 4 _ (HS.out.src.below (by go_grown)) (by omega)).mono ?_; rintro e w5 ⟨x, rfl, hx0, hx1, -, hs5, g5⟩; obtain ⟨x, rfl⟩ := Int.eq_ofNat_of_zero_le hx0; have hx3 : x < 4 := (by have := hx1 (by omega); omega); have hx4 : (x : Int) < 4 := (by omega); have htl := tab4_list x hx3; have hta := tab4_arr 0 1 64 65 x hx3; have htab := tab4_alloc x hx3 2; have G5 := grown_trans (grown_of_below (w := w3) (g := some p) (by go_grown)) g5; have D5 := C3.out.grown G5 hCp; have hc0' := D5.c0; have hc1' := D5.c1; have hcal1 : ∀ X : Obj, (w5.alloc X).cell? ⟨C, 1, none⟩ = some (.int .i64 pl) := (fun X => D5.below ((Below.refl w5.heap.size w5).alloc (Nat.le_refl _) X) D5.lt |>.c1); have hcal0 : ∀ X : Obj, (w5.alloc X).cell? ⟨C, 0, none⟩ = some (.int .i64 wd) := (fun X => D5.below ((Below.refl w5.heap.size w5).alloc (Nat.le_refl _) X) D5.lt |>.c0); have H5 := Lib.hid (HS.out.next hs5 G5); have R5 := Lib.hid (HR0.out.below H5.out.below HR0.out.lt); have hr0 := R5.out.c0; have hr1 := R5.out.c1; have hq0 := R5.out.f0 0; have hq1 := R5.out.f0 1; have hral0 : ∀ X : Obj, (w5.alloc X).cell? ⟨w.heap.size, 0, none⟩ = some (.int .i64 0) := (fun X => R5.out.below ((Below.refl w5.heap.size w5).alloc (Nat.le_refl _) X) R5.out.lt |>.c0); have hral1 : ∀ X : Obj, (w5.alloc X).cell? ⟨w.heap.size, 1, none⟩ = some (.int .i64 0) := (fun X => R5.out.below ((Below.refl w5.heap.size w5).alloc (Nat.le_refl _) X) R5.out.lt |>.c1); have hqal : ∀ (X : Obj) (i : Nat), (w5.alloc X).frozen? ⟨w.heap.size, i, none⟩ = false := (fun X i => R5.out.below ((Below.refl w5.heap.size w5).alloc (Nat.le_refl _) X) R5.out.lt |>.f0 i); have hct : w5.cell? ⟨w3.heap.size, x, none⟩ = some (.int .i64 (tab4 0 1 64 65 x)) := tab4_cell (w := w3) (w' := w5) (T := 2) (p := p) ⟨g5.os, g5.tape, g5.output, g5.size, g5.block⟩ hpl x hx3; have hctx := (fun (a b : Int) => cell_far (R := w.heap.size) (a0 := .int .i64 a) (a1 := .int .i64 b) hne3 hct); have D5x := (fun (a b : Int) => (show StructAt 25 ((w5.setCell ⟨w.heap.size, 0, none⟩ (.int .i64 a)).setCell ⟨w.heap.size, 1, none⟩ (.int .i64 b)) C wd pl from (heap_setCell_other _ _ _ _ (by simp; omega)).trans ((heap_setCell_other _ _ _ _ (by simp; omega)).trans D5))); have hcx0 := (fun (a b : Int) => (D5x a b).c0); have hcx1 := (fun (a b : Int) => (D5x a b).c1); clear hs5 g5 G5 D5 D5x hx0 hx1)
      | (go_at_call 72; refine (next_any p 4 _ (HS.out.src.below (by go_grown)) (by omega)).mono ?_; rintro e w5 ⟨x, rfl, hx0, hx1, -, hs5, g5⟩; obtain ⟨x, rfl⟩ := Int.eq_ofNat_of_zero_le hx0; have hx3 : x < 4 := (by have := hx1 (by omega); omega); have hx4 : (x : Int) < 4 := (by omega); have htl := tab4_list x hx3; have hta := tab4_arr 0 1 64 65 x hx3; have htab := tab4_alloc x hx3 2; have G5 := grown_trans (grown_of_below (w := w3) (g := some p) (by go_grown)) g5; have D5 := C3.out.grown G5 hCp; have hc0' := D5.c0; have hc1' := D5.c1; have hcal1 : ∀ X : Obj, (w5.alloc X).cell? ⟨C, 1, none⟩ = some (.int .i64 pl) := (fun X => D5.below ((Below.refl w5.heap.size w5).alloc (Nat.le_refl _) X) D5.lt |>.c1); have hcal0 : ∀ X : Obj, (w5.alloc X).cell? ⟨C, 0, none⟩ = some (.int .i64 wd) := (fun X => D5.below ((Below.refl w5.heap.size w5).alloc (Nat.le_refl _) X) D5.lt |>.c0); have H5 := Lib.hid (HS.out.next hs5 G5); have R5 := Lib.hid (HR0.out.below H5.out.below HR0.out.lt); have hr0 := R5.out.c0; have hr1 := R5.out.c1; have hq0 := R5.out.f0 0; have hq1 := R5.out.f0 1; have hral0 : ∀ X : Obj, (w5.alloc X).cell? ⟨w.heap.size, 0, none⟩ = some (.int .i64 0) := (fun X => R5.out.below ((Below.refl w5.heap.size w5).alloc (Nat.le_refl _) X) R5.out.lt |>.c0); have hral1 : ∀ X : Obj, (w5.alloc X).cell? ⟨w.heap.size, 1, none⟩ = some (.int .i64 0) := (fun X => R5.out.below ((Below.refl w5.heap.size w5).alloc (Nat.le_refl _) X) R5.out.lt |>.c1); have hqal : ∀ (X : Obj) (i : Nat), (w5.alloc X).frozen? ⟨w.heap.size, i, none⟩ = false := (fun X i => R5.out.below ((Below.refl w5.heap.size w5).alloc (Nat.le_refl _) X) R5.out.lt |>.f0 i); have hne5 : w5.heap.size ≠ w.heap.size := (by have := H5.out.below.size; have := HSZ.out; omega); have hctB := (fun (a b : Int) => cell_far (R := w.heap.size) (a0 := .int .i64 a) (a1 := .int .i64 b) hne5 (htab w5)); have hctC := (fun (a b : Int) => tab4_late (R := w.heap.size) (a := .int .i64 a) (b := .int .i64 b) x hx3 2 w5); have D5x := (fun (a b : Int) => (show StructAt 25 ((w5.setCell ⟨w.heap.size, 0, none⟩ (.int .i64 a)).setCell ⟨w.heap.size, 1, none⟩ (.int .i64 b)) C wd pl from (heap_setCell_other _ _ _ _ (by simp; omega)).trans ((heap_setCell_other _ _ _ _ (by simp; omega)).trans D5))); have hcx0 := (fun (a b : Int) => (D5x a b).c0); have hcx1 := (fun (a b : Int) => (D5x a b).c1); clear hs5 g5 G5 D5 D5x hx0 hx1))
    all_goals
      go_wp2
    all_goals
      have hA := (R5.out.set0 wd).set1 pl
      have bA : Below w.heap.size w ((w5.setCell ⟨w.heap.size, 0, none⟩ (.int .i64 wd)).setCell ⟨w.heap.size, 1, none⟩ (.int .i64 pl)) := (below_two HB.out H5.out.below).trans (((Below.refl _ _).setCell (by simp) _).setCell (by simp) _)
      have bW := below_two HB.out H5.out.below
      have tA := bW.size
      have bB : Below w.heap.size w (((w5.alloc (.cells #[.int .i64 0, .int .i64 1, .int .i64 64, .int .i64 65] 2)).setCell ⟨w.heap.size, 0, none⟩ (.int .i64 wd)).setCell ⟨w.heap.size, 1, none⟩ (.int .i64 pl)) := (bW.alloc tA _).trans (((Below.refl _ _).setCell (by simp) _).setCell (by simp) _)
      have hB := ((R5.out.below ((Below.refl w5.heap.size w5).alloc (Nat.le_refl _) (.cells #[.int .i64 0, .int .i64 1, .int .i64 64, .int .i64 65] 2)) R5.out.lt).set0 wd).set1 pl
      have bC := bA.alloc bA.size (.cells #[.int .i64 0, .int .i64 1, .int .i64 64, .int .i64 65] 2)
      have hC := hA.below ((Below.refl _ _).alloc (Nat.le_refl _) (.cells #[.int .i64 0, .int .i64 1, .int .i64 64, .int .i64 65] 2)) hA.lt
      first
      | exact bodyPost_ret (v := .tuple #[.agg #[.int .i64 wd, .int .i64 pl], .int .i64 (tab4 0 1 64 65 x)]) (by simp [results, Try.results58, go_sem, hA.c0, hA.c1]) rfl ⟨_, _, _, rfl, bA⟩
      | exact bodyPost_ret (v := .tuple #[.agg #[.int .i64 wd, .int .i64 pl], .int .i64 (tab4 0 1 64 65 x)]) (by simp [results, Try.results58, go_sem, hB.c0, hB.c1]) rfl ⟨_, _, _, rfl, bB⟩
      | exact bodyPost_ret (v := .tuple #[.agg #[.int .i64 wd, .int .i64 pl], .int .i64 (tab4 0 1 64 65 x)]) (by simp [results, Try.results58, go_sem, hC.c0, hC.c1]) rfl ⟨_, _, _, rfl, bC⟩
  · have t0 : (y == 0) = false := by simp [h0]
    clear h0
    have h30 : (30 : Int) ≤ 9223372036854775807 := by omega
    have HD := Lib.hid (H.still (Below.refl w3.heap.size w3).drew)
    have D3 := Lib.hid (show StructAt 25 w3.drew C wd pl from C3.out)
    clear H C3
    go_wp2
    go_region_held3 (fun w' => w'.cell? ⟨C, 0, none⟩ = some (.int .i64 wd) ∧ w'.cell? ⟨C, 1, none⟩ = some (.int .i64 pl))
      (first | exact ⟨D3.out.c0, D3.out.c1⟩ | exact ⟨D5.out.c0, D5.out.c1⟩ | exact ⟨(D5x _ _).c0, (D5x _ _).c1⟩)
      (first
        | (go_at_call 72; (with_reducible refine (next_any p 30 _ HD.out.src h30).mono ?_); rintro e w5 ⟨x, rfl, hx0, hx1, -, hs5, g5⟩; have hx2 : x < 30 := hx1 (by omega); have D5 := Lib.hid (D3.out.grown g5 hCp); have H5 := Lib.hid (HD.out.next hs5 g5); clear hs5 g5 hx1; have R5 := Lib.hid (HR0.out.below H5.out.below HR0.out.lt); have hr0 := R5.out.c0; have hr1 := R5.out.c1; have hq0 := R5.out.f0 0; have hq1 := R5.out.f0 1; have D5x := (fun (a b : Int) => (show StructAt 25 ((w5.setCell ⟨w.heap.size, 0, none⟩ (.int .i64 a)).setCell ⟨w.heap.size, 1, none⟩ (.int .i64 b)) C wd pl from (heap_setCell_other _ _ _ _ (by simp; omega)).trans ((heap_setCell_other _ _ _ _ (by simp; omega)).trans D5.out)))))
    go_wp2
    have h6 : Below w.heap.size w5 ((w5.setCell ⟨w.heap.size, 0, none⟩ (.int .i64 wd)).setCell ⟨w.heap.size, 1, none⟩ (.int .i64 pl)) := ((Below.refl _ _).setCell (by simp) _).setCell (by simp) _
    have hR6 := (R5.out.set0 wd).set1 pl
    have hd0 := hR6.c0
    have hd1 := hR6.c1
    clear D5x hr0 hr1 hq0 hq1 hR6
    have hwx := wrapK_small (1 + x) (by omega)
    exact bodyPost_ret (v := .tuple #[.agg #[.int .i64 wd, .int .i64 pl], .int .i64 (1 + x)]) (by simp [results, Try.results58, go_sem, hd0, hd1, hwx]) rfl ⟨_, _, _, rfl, below_two HB.out (H5.out.below) |>.trans h6⟩
end Go.Proofs.Ytfmbefmiglpijaa
