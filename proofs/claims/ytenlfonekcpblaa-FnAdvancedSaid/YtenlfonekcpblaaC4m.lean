/-
  Chapter 4: spec.DrawAdvanceState.
-/
import Derived.Test.YtenlfonekcpblaaC4k
namespace Go.Proofs.Ytenlfonekcpblaa
open Go.RowKit

/-- What a draw of a state and three numbers leaves. -/
def DrawnAdv (w : World) (e : Ending) (w' : World) : Prop :=
  ∃ t m r s k d sl rd : Int, e = .returned (.tuple #[.agg #[.int .i64 t, .int .i64 m, .int .i64 r, .int .i64 s, .int .i64 k], .int .i64 d, .int .i64 sl, .int .i64 rd]) ∧ Below w.heap.size w w'
def four (a b c d : Int) (z : Nat) : Int := if z = 0 then a else if z = 1 then b else if z = 2 then c else d
theorem four_arr (a b c d : Int) (z : Nat) (hz : z < 4) : (#[.int .i64 a, .int .i64 b, .int .i64 c, .int .i64 d] : Array Value)[z]? = some (.int .i64 (four a b c d z)) := by
  match z, hz with
  | 0, _ | 1, _ | 2, _ | 3, _ => rfl
theorem four_list (a b c d : Int) (z : Nat) (hz : z < 4) : ([.int .i64 a, .int .i64 b, .int .i64 c, .int .i64 d] : List Value)[z]? = some (.int .i64 (four a b c d z)) := by
  match z, hz with
  | 0, _ | 1, _ | 2, _ | 3, _ => rfl
theorem four_alloc (a b c d : Int) (z : Nat) (hz : z < 4) (T : Nat) : ∀ W : World, (W.alloc (.cells #[.int .i64 a, .int .i64 b, .int .i64 c, .int .i64 d] T)).cell? ⟨W.heap.size, z, none⟩ = some (.int .i64 (four a b c d z)) := fun W => by
  rw [World.cell?_alloc_at _ _ _ _ rfl]; exact four_arr a b c d z hz
theorem four_cell {w w' : World} {T p : Nat} {a b c d : Int} (hg : (w.alloc (.cells #[.int .i64 a, .int .i64 b, .int .i64 c, .int .i64 d] T)).grownBy w' (some p)) (hp : p < w.heap.size) (z : Nat) (hz : z < 4) : w'.cell? ⟨w.heap.size, z, none⟩ = some (.int .i64 (four a b c d z)) := by
  rw [table_cell hg hp z]; exact four_arr a b c d z hz

set_option maxRecDepth 100000 in
set_option maxHeartbeats 4000000 in
theorem drawAdvanceState_any (ao : Option Addr) (n cap : Nat) (cs : List Int) (w : World) (hr : RdB w w.heap.size ao n cs) (hn : n ≤ 1048576) :
    Calls Try.prog 12 #[.slice ao n cap] w (DrawnAdv w) := by
  have hb0 : Below w.heap.size w (w.alloc (.cells #[.int .i64 0, .int .i64 0, .int .i64 0, .int .i64 0, .int .i64 0] 25)) := (Below.refl _ _).alloc (Nat.le_refl _) _
  have hr0 := rdB_grow hr hb0
  have z1 := StateAt.new (T := 25) (t := 0) (m := 0) (r := 0) (s := 0) (k := 0) w
  have HB := Lib.hid hb0; clear hb0
  have HR := Lib.hid hr0; clear hr0 hr
  have Z1 := Lib.hid z1; clear z1
  go_enter Try.func12, Try.ntmps12
  go_wp2_with fail
  generalize (w.alloc (.cells #[.int .i64 0, .int .i64 0, .int .i64 0, .int .i64 0, .int .i64 0] 25)) = w0 at HB HR Z1 ⊢
  refine (from_any _ _ _ cs _ HR.out hn).mono ?_
  rintro e w1 ⟨p, rfl, hlo, hs1, hb1⟩
  have H1 : Hid (HeldS 2 64 w0 w1 p []) := HeldS.start hb1 hlo hs1
  clear hlo hs1 hb1
  go_wp2_with fail
  refine (l04DrawAny_any _ _ H1.out.src).mono ?_
  rintro e w2 ⟨a, b, c, d, f, rfl, hs2, g2⟩
  have H2 := Lib.hid (H1.out.next hs2 g2)
  clear hs2 g2 H1
  go_upto_region 3 with fail
  have HA := Lib.hid (Below.alloc (Below.refl w2.heap.size w2) (Nat.le_refl _) (.cells #[.int .i64 a, .int .i64 b, .int .i64 c, .int .i64 d, .int .i64 f] 25))
  have hpl := H2.out.src.lt
  have C3 := Lib.hid (StateAt.new (T := 25) (t := a) (m := b) (r := c) (s := d) (k := f) w2)
  have H3 := Lib.hid (H2.out.still HA.out)
  have hw02 := H2.out.below.size
  have hzl := Z1.out.lt
  obtain ⟨C, hC⟩ : ∃ C, C = w2.heap.size := ⟨_, rfl⟩
  rw [← hC] at C3 hpl hw02 ⊢
  have hCR : C ≠ w.heap.size := by omega
  have hCp : some C ≠ some p := by simp; omega
  clear hC HA H2 hw02 hzl
  generalize w2.alloc (.cells #[.int .i64 a, .int .i64 b, .int .i64 c, .int .i64 d, .int .i64 f] 25) = w3 at C3 H3 ⊢
  have D3 := Lib.hid C3.out.drew
  have H4 := Lib.hid (H3.out.still (Below.refl w3.heap.size w3).drew)
  clear C3 H3
  go_region_held3 (fun w' => w'.cell? ⟨C, 2, none⟩ = some (.int .i64 c) ∧ w'.cell? ⟨C, 3, none⟩ = some (.int .i64 d))
    (first | with_reducible exact ⟨D3.out.c2, D3.out.c3⟩ | with_reducible exact ⟨D5.out.c2, D5.out.c3⟩ | with_reducible exact ⟨D6.out.c2, D6.out.c3⟩ | with_reducible exact ⟨D7.out.c2, D7.out.c3⟩)
    (first
      | (go_at_call 34; (with_reducible refine (next_any p 400 _ H4.out.src ?_).mono ?_); (· omega); rintro e w5 ⟨x5, rfl, -, -, -, hs5, g5⟩; have H5 := Lib.hid (H4.out.next hs5 g5); have D5 := Lib.hid (D3.out.grown g5 hCp); clear hs5 g5 H4 D3)
      | (go_at_call 34; (with_reducible refine (next_any p 3 _ H5.out.src ?_).mono ?_); (· omega); rintro e w6 ⟨x6, rfl, -, -, -, hs6, g6⟩; have H6 := Lib.hid (H5.out.next hs6 g6); have D6 := Lib.hid (D5.out.grown g6 hCp); clear hs6 g6 H5 D5)
      | (go_at_call 34; (with_reducible refine (next_any p 3 _ H6.out.src ?_).mono ?_); (· omega); rintro e w7 ⟨x7, rfl, -, -, -, hs7, g7⟩; have H7 := Lib.hid (H6.out.next hs7 g7); have D7 := Lib.hid (D6.out.grown g7 hCp); clear hs7 g7 H6 D6))
  obtain ⟨u, hu⟩ : ∃ u, IntKind.i64.wrap (IntKind.i64.wrap (d + 1) + x6) = u := ⟨_, rfl⟩
  obtain ⟨v, hv⟩ : ∃ v, IntKind.i64.wrap (IntKind.i64.wrap (c + 1) + x7) = v := ⟨_, rfl⟩
  rw [hu, hv]
  clear hu hv
  go_wp2_with fail
  refine (next_any p 20 _ H7.out.src (by omega)).mono ?_
  rintro e w8 ⟨y, rfl, -, -, -, hs8, g8⟩
  have H8 := Lib.hid (H7.out.next hs8 g8)
  have C8 := Lib.hid (D7.out.grown g8 hCp)
  clear hs8 g8 H7 D7
  by_cases h0 : y = 0
  · subst h0
    go_wp2_with fail
    have HT := Lib.hid (Below.alloc (Below.refl w8.heap.size w8) (Nat.le_refl _) (.cells #[.int .i64 (-1), .int .i64 65535, .int .i64 65536] 2))
    refine (next_any _ _ _ (H8.out.still HT.out).src (by omega)).mono ?_
    rintro e w9 ⟨z, rfl, z0, z1, -, hs9, g9⟩
    replace z1 := z1 (by omega)
    obtain ⟨z, rfl⟩ := Int.eq_ofNat_of_zero_le z0
    have hz : z < 3 := by omega
    obtain ⟨x, hv⟩ : ∃ v : Int, (#[.int .i64 (-1), .int .i64 65535, .int .i64 65536] : Array Value)[z]? = some (.int .i64 v) := by
      match z, hz with
      | 0, _ => exact ⟨_, rfl⟩
      | 1, _ => exact ⟨_, rfl⟩
      | 2, _ => exact ⟨_, rfl⟩
    have hct := (table_cell g9 H8.out.src.lt z).trans hv
    have H9 := Lib.hid ((H8.out.still HT.out).next hs9 g9)
    have C9 := Lib.hid ((C8.out.below HT.out C8.out.lt).grown g9 hCp)
    clear hs9 g9 H8 C8 HT z0 hv hz
    have q1 := StateAt.below Z1.out H9.out.below Z1.out.lt
    have c0 := C9.out.c0
    have c1 := C9.out.c1
    have c2 := C9.out.c2
    have c3 := C9.out.c3
    have c4 := C9.out.c4
    have r0 := q1.c0
    have r1 := q1.c1
    have r2 := q1.c2
    have r3 := q1.c3
    have r4 := q1.c4
    have f0 := q1.f 0
    have f1 := q1.f 1
    have f2 := q1.f 2
    have f3 := q1.f 3
    have f4 := q1.f 4
    go_wp2_with fail
    clear c0 r0 f0 c1 r1 f1 c2 r2 f2 c3 r3 f3 c4 r4 f4
    change bodyPost _ _ _ _ _ (setFive w9 w.heap.size a b c d f)
    have SF := StateAt.five q1 a b c d f
    have BF := below_two' (below_two HB.out H9.out.below) (below_five (B := w.heap.size) (w := w9) (b := w.heap.size) (Nat.le_refl _) a b c d f)
    generalize setFive w9 w.heap.size a b c d f = wz at SF BF ⊢
    have e0 := SF.c0
    have e1 := SF.c1
    have e2 := SF.c2
    have e3 := SF.c3
    have e4 := SF.c4
    exact bodyPost_ret (v := .tuple #[.agg #[.int .i64 a, .int .i64 b, .int .i64 c, .int .i64 d, .int .i64 f], .int .i64 x, .int .i64 u, .int .i64 v]) (by simp [results, Try.results12, go_sem, e0, e1, e2, e3, e4]) rfl ⟨_, _, _, _, _, _, _, _, rfl, BF⟩
  have t0 : (y == 0) = false := by simp [h0]
  by_cases h1 : y = 1
  · subst h1
    have HS := Lib.hid H8
    go_wp2_with fail
    have hpl := H8.out.src.lt
    have cc := C8.out.c3
    have cal : ∀ X : Obj, (w8.alloc X).cell? ⟨C, 3, none⟩ = some (.int .i64 d) := fun X => (C8.out.below ((Below.refl w8.heap.size w8).alloc (Nat.le_refl _) X) C8.out.lt).c3
    go_region_with (first
      | (go_at_call 34; refine (next_any p 4 _ (H8.out.src.below (by go_grown)) (by omega)).mono ?_; rintro e w9 ⟨z, rfl, z0, z1, -, hs9, g9⟩; obtain ⟨z, rfl⟩ := Int.eq_ofNat_of_zero_le z0; have hz3 : z < 4 := (by have := z1 (by omega); omega); have hz4 : (z : Int) < 4 := (by omega); have htl := four_list 0 d 256 257 z hz3; have hta := four_arr 0 d 256 257 z hz3; have htab := four_alloc 0 d 256 257 z hz3 2; have G9 := grown_trans (grown_of_below (w := w8) (g := some p) (by go_grown)) g9; have D9 := Lib.hid (C8.out.grown G9 hCp); have H9 := Lib.hid (H8.out.next hs9 G9); have dc := D9.out.c3; have dal : ∀ X : Obj, (w9.alloc X).cell? ⟨C, 3, none⟩ = some (.int .i64 d) := (fun X => (D9.out.below ((Below.refl w9.heap.size w9).alloc (Nat.le_refl _) X) D9.out.lt).c3); have hct : w9.cell? ⟨w8.heap.size, z, none⟩ = some (.int .i64 (four 0 d 256 257 z)) := four_cell (w := w8) (w' := w9) (T := 2) (p := p) ⟨g9.os, g9.tape, g9.output, g9.size, g9.block⟩ hpl z hz3; clear hs9 g9 G9 z0 z1)
      | (go_at_call 34; refine (next_any p 4 _ (H8.out.src.below (by go_grown)) (by omega)).mono ?_; rintro e w9 ⟨z, rfl, z0, z1, -, hs9, g9⟩; obtain ⟨z, rfl⟩ := Int.eq_ofNat_of_zero_le z0; have hz3 : z < 4 := (by have := z1 (by omega); omega); have hz4 : (z : Int) < 4 := (by omega); have htl := four_list 0 d 256 257 z hz3; have hta := four_arr 0 d 256 257 z hz3; have htab := four_alloc 0 d 256 257 z hz3 2; have G9 := grown_trans (grown_of_below (w := w8) (g := some p) (by go_grown)) g9; have D9 := Lib.hid (C8.out.grown G9 hCp); have H9 := Lib.hid (H8.out.next hs9 G9); have dc := D9.out.c3; have dal : ∀ X : Obj, (w9.alloc X).cell? ⟨C, 3, none⟩ = some (.int .i64 d) := (fun X => (D9.out.below ((Below.refl w9.heap.size w9).alloc (Nat.le_refl _) X) D9.out.lt).c3); clear hs9 g9 G9 z0 z1))
    all_goals
      clear cc cal dc dal htl hta htab
      have HAL := Below.alloc (Below.refl w9.heap.size w9) (Nat.le_refl _) (.cells #[.int .i64 0, .int .i64 d, .int .i64 256, .int .i64 257] 2)
      have D10 := Lib.hid (D9.out.below HAL D9.out.lt)
      have H10 := Lib.hid (H9.out.still HAL)
      clear HAL
      obtain ⟨wq, hwq⟩ : ∃ wq, w9.alloc (.cells #[.int .i64 0, .int .i64 d, .int .i64 256, .int .i64 257] 2) = wq := ⟨_, rfl⟩
      first
      | (rw [hwq]; rw [hwq] at D10 H10; clear hwq D9 H9)
      | (clear hwq D10 H10 wq; obtain ⟨wq, hq⟩ : ∃ wq, w9 = wq := ⟨_, rfl⟩; rw [hq]; rw [hq] at D9 H9; have D10 := D9; have H10 := H9; clear D9 H9)
      have q1 := StateAt.below Z1.out H10.out.below Z1.out.lt
      have c0 := D10.out.c0
      have c1 := D10.out.c1
      have c2 := D10.out.c2
      have c3 := D10.out.c3
      have c4 := D10.out.c4
      have r0 := q1.c0
      have r1 := q1.c1
      have r2 := q1.c2
      have r3 := q1.c3
      have r4 := q1.c4
      have f0 := q1.f 0
      have f1 := q1.f 1
      have f2 := q1.f 2
      have f3 := q1.f 3
      have f4 := q1.f 4
      go_wp2_with fail
      clear c0 r0 f0 c1 r1 f1 c2 r2 f2 c3 r3 f3 c4 r4 f4
      change bodyPost _ _ _ _ _ (setFive wq w.heap.size a b c d f)
      have SF := StateAt.five q1 a b c d f
      have BF := below_two' (below_two HB.out H10.out.below) (below_five (B := w.heap.size) (w := wq) (b := w.heap.size) (Nat.le_refl _) a b c d f)
      generalize setFive wq w.heap.size a b c d f = wz at SF BF ⊢
      have e0 := SF.c0
      have e1 := SF.c1
      have e2 := SF.c2
      have e3 := SF.c3
      have e4 := SF.c4
      exact bodyPost_ret (v := .tuple #[.agg #[.int .i64 a, .int .i64 b, .int .i64 c, .int .i64 d, .int .i64 f], .int .i64 x5, .int .i64 (four 0 d 256 257 z), .int .i64 v]) (by simp [results, Try.results12, go_sem, e0, e1, e2, e3, e4]) rfl ⟨_, _, _, _, _, _, _, _, rfl, BF⟩
  have t1 : (y == 1) = false := by simp [h1]
  by_cases h2 : y = 2
  · subst h2
    have HS := Lib.hid H8
    go_wp2_with fail
    have hpl := H8.out.src.lt
    have cc := C8.out.c2
    have cal : ∀ X : Obj, (w8.alloc X).cell? ⟨C, 2, none⟩ = some (.int .i64 c) := fun X => (C8.out.below ((Below.refl w8.heap.size w8).alloc (Nat.le_refl _) X) C8.out.lt).c2
    go_region_with (first
      | (go_at_call 34; refine (next_any p 4 _ (H8.out.src.below (by go_grown)) (by omega)).mono ?_; rintro e w9 ⟨z, rfl, z0, z1, -, hs9, g9⟩; obtain ⟨z, rfl⟩ := Int.eq_ofNat_of_zero_le z0; have hz3 : z < 4 := (by have := z1 (by omega); omega); have hz4 : (z : Int) < 4 := (by omega); have htl := four_list 0 c 16 17 z hz3; have hta := four_arr 0 c 16 17 z hz3; have htab := four_alloc 0 c 16 17 z hz3 2; have G9 := grown_trans (grown_of_below (w := w8) (g := some p) (by go_grown)) g9; have D9 := Lib.hid (C8.out.grown G9 hCp); have H9 := Lib.hid (H8.out.next hs9 G9); have dc := D9.out.c2; have dal : ∀ X : Obj, (w9.alloc X).cell? ⟨C, 2, none⟩ = some (.int .i64 c) := (fun X => (D9.out.below ((Below.refl w9.heap.size w9).alloc (Nat.le_refl _) X) D9.out.lt).c2); have hct : w9.cell? ⟨w8.heap.size, z, none⟩ = some (.int .i64 (four 0 c 16 17 z)) := four_cell (w := w8) (w' := w9) (T := 2) (p := p) ⟨g9.os, g9.tape, g9.output, g9.size, g9.block⟩ hpl z hz3; clear hs9 g9 G9 z0 z1)
      | (go_at_call 34; refine (next_any p 4 _ (H8.out.src.below (by go_grown)) (by omega)).mono ?_; rintro e w9 ⟨z, rfl, z0, z1, -, hs9, g9⟩; obtain ⟨z, rfl⟩ := Int.eq_ofNat_of_zero_le z0; have hz3 : z < 4 := (by have := z1 (by omega); omega); have hz4 : (z : Int) < 4 := (by omega); have htl := four_list 0 c 16 17 z hz3; have hta := four_arr 0 c 16 17 z hz3; have htab := four_alloc 0 c 16 17 z hz3 2; have G9 := grown_trans (grown_of_below (w := w8) (g := some p) (by go_grown)) g9; have D9 := Lib.hid (C8.out.grown G9 hCp); have H9 := Lib.hid (H8.out.next hs9 G9); have dc := D9.out.c2; have dal : ∀ X : Obj, (w9.alloc X).cell? ⟨C, 2, none⟩ = some (.int .i64 c) := (fun X => (D9.out.below ((Below.refl w9.heap.size w9).alloc (Nat.le_refl _) X) D9.out.lt).c2); clear hs9 g9 G9 z0 z1))
    all_goals
      clear cc cal dc dal htl hta htab
      have HAL := Below.alloc (Below.refl w9.heap.size w9) (Nat.le_refl _) (.cells #[.int .i64 0, .int .i64 c, .int .i64 16, .int .i64 17] 2)
      have D10 := Lib.hid (D9.out.below HAL D9.out.lt)
      have H10 := Lib.hid (H9.out.still HAL)
      clear HAL
      obtain ⟨wq, hwq⟩ : ∃ wq, w9.alloc (.cells #[.int .i64 0, .int .i64 c, .int .i64 16, .int .i64 17] 2) = wq := ⟨_, rfl⟩
      first
      | (rw [hwq]; rw [hwq] at D10 H10; clear hwq D9 H9)
      | (clear hwq D10 H10 wq; obtain ⟨wq, hq⟩ : ∃ wq, w9 = wq := ⟨_, rfl⟩; rw [hq]; rw [hq] at D9 H9; have D10 := D9; have H10 := H9; clear D9 H9)
      have q1 := StateAt.below Z1.out H10.out.below Z1.out.lt
      have c0 := D10.out.c0
      have c1 := D10.out.c1
      have c2 := D10.out.c2
      have c3 := D10.out.c3
      have c4 := D10.out.c4
      have r0 := q1.c0
      have r1 := q1.c1
      have r2 := q1.c2
      have r3 := q1.c3
      have r4 := q1.c4
      have f0 := q1.f 0
      have f1 := q1.f 1
      have f2 := q1.f 2
      have f3 := q1.f 3
      have f4 := q1.f 4
      go_wp2_with fail
      clear c0 r0 f0 c1 r1 f1 c2 r2 f2 c3 r3 f3 c4 r4 f4
      change bodyPost _ _ _ _ _ (setFive wq w.heap.size a b c d f)
      have SF := StateAt.five q1 a b c d f
      have BF := below_two' (below_two HB.out H10.out.below) (below_five (B := w.heap.size) (w := wq) (b := w.heap.size) (Nat.le_refl _) a b c d f)
      generalize setFive wq w.heap.size a b c d f = wz at SF BF ⊢
      have e0 := SF.c0
      have e1 := SF.c1
      have e2 := SF.c2
      have e3 := SF.c3
      have e4 := SF.c4
      exact bodyPost_ret (v := .tuple #[.agg #[.int .i64 a, .int .i64 b, .int .i64 c, .int .i64 d, .int .i64 f], .int .i64 x5, .int .i64 u, .int .i64 (four 0 c 16 17 z)]) (by simp [results, Try.results12, go_sem, e0, e1, e2, e3, e4]) rfl ⟨_, _, _, _, _, _, _, _, rfl, BF⟩
  have t2 : (y == 2) = false := by simp [h2]
  clear h0 h1 h2
  have q1 := StateAt.below Z1.out H8.out.below Z1.out.lt
  have c0 := C8.out.c0
  have c1 := C8.out.c1
  have c2 := C8.out.c2
  have c3 := C8.out.c3
  have c4 := C8.out.c4
  have r0 := q1.c0
  have r1 := q1.c1
  have r2 := q1.c2
  have r3 := q1.c3
  have r4 := q1.c4
  have f0 := q1.f 0
  have f1 := q1.f 1
  have f2 := q1.f 2
  have f3 := q1.f 3
  have f4 := q1.f 4
  go_wp2_with fail
  clear c0 r0 f0 c1 r1 f1 c2 r2 f2 c3 r3 f3 c4 r4 f4
  change bodyPost _ _ _ _ _ (setFive w8 w.heap.size a b c d f)
  have SF := StateAt.five q1 a b c d f
  have BF := below_two' (below_two HB.out H8.out.below) (below_five (B := w.heap.size) (w := w8) (b := w.heap.size) (Nat.le_refl _) a b c d f)
  generalize setFive w8 w.heap.size a b c d f = wz at SF BF ⊢
  have e0 := SF.c0
  have e1 := SF.c1
  have e2 := SF.c2
  have e3 := SF.c3
  have e4 := SF.c4
  exact bodyPost_ret (v := .tuple #[.agg #[.int .i64 a, .int .i64 b, .int .i64 c, .int .i64 d, .int .i64 f], .int .i64 x5, .int .i64 u, .int .i64 v]) (by simp [results, Try.results12, go_sem, e0, e1, e2, e3, e4]) rfl ⟨_, _, _, _, _, _, _, _, rfl, BF⟩
end Go.Proofs.Ytenlfonekcpblaa
