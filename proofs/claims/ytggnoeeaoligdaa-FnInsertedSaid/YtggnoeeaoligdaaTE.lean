/-
  Chapter 12: two slots drawn.
-/
import Derived.Test.YtggnoeeaoligdaaTD
namespace Go.Proofs.Ytggnoeeaoligdaa
open Go.RowKit

/-- While two slots are drawn: both results' boxes, the source. -/
structure DrC (w wr : World) (p : Nat) (x y : Sl) : Prop where
  one : SlBk 38 wr w.heap.size x
  two : SlBk 38 wr (w.heap.size + 1) y
  src : Src 146 wr p
  below : Below w.heap.size w wr
  lo : w.heap.size + 2 ≤ p
theorem DrC.next {w wr w' : World} {p : Nat} {x y : Sl} (h : DrC w wr p x y) (hs : Src 146 w' p) (g : wr.grownBy w' (some p)) : DrC w w' p x y :=
  have hl := h.lo
  ⟨h.one.grown g (by simp; omega), h.two.grown g (by simp; omega), hs, h.below.grown g h.below.size (fun k hk => by cases hk; omega), h.lo⟩
theorem DrC.call {w wr w' : World} {p : Nat} {x y : Sl} (h : DrC w wr p x y) (b : Below wr.heap.size wr w') : DrC w w' p x y :=
  ⟨h.one.below b h.one.lt, h.two.below b h.two.lt, h.src.below b, h.below.trans (b.mono h.below.size), h.lo⟩
theorem DrC.put1 {w wr : World} {p : Nat} {x y : Sl} (h : DrC w wr p x y) (z : Sl) : SlBk 38 (setS0 wr w.heap.size z) w.heap.size z ∧ SlBk 38 (setS0 wr w.heap.size z) (w.heap.size + 1) y ∧ Below w.heap.size w (setS0 wr w.heap.size z) :=
  ⟨h.one.put0 z, h.two.other0 z (by omega), h.below.grown (grown_setS0 wr _ z) h.below.size (fun k hk => by cases hk; exact Nat.le_refl _)⟩
set_option linter.unusedSimpArgs false in
set_option maxHeartbeats 4000000 in
set_option maxRecDepth 100000 in
theorem drawCompareSlots_any (ao : Option Addr) (n cap : Nat) (cs : List Int) (w : World) (hr : RdB w w.heap.size ao n cs) (hn : n ≤ 1048576) :
    Calls Try.prog 31 #[.slice ao n cap] w (DrawnSS w) := by
  have hb0 := (Below.refl w.heap.size w).alloc (Nat.le_refl _) (.cells #[.int .i64 0, .int .i64 0, .int .i64 0, .int .i64 0, .int .i64 0, .int .i64 0, .int .i64 0, .bool false] 38)
  have hb1 := (Below.refl (w.alloc (.cells #[.int .i64 0, .int .i64 0, .int .i64 0, .int .i64 0, .int .i64 0, .int .i64 0, .int .i64 0, .bool false] 38)).heap.size (w.alloc (.cells #[.int .i64 0, .int .i64 0, .int .i64 0, .int .i64 0, .int .i64 0, .int .i64 0, .int .i64 0, .bool false] 38))).alloc (Nat.le_refl _) (.cells #[.int .i64 0, .int .i64 0, .int .i64 0, .int .i64 0, .int .i64 0, .int .i64 0, .int .i64 0, .bool false] 38)
  have hs : (w.alloc (.cells #[.int .i64 0, .int .i64 0, .int .i64 0, .int .i64 0, .int .i64 0, .int .i64 0, .int .i64 0, .bool false] 38)).heap.size = w.heap.size + 1 := by simp
  have hs2 : ((w.alloc (.cells #[.int .i64 0, .int .i64 0, .int .i64 0, .int .i64 0, .int .i64 0, .int .i64 0, .int .i64 0, .bool false] 38)).alloc (.cells #[.int .i64 0, .int .i64 0, .int .i64 0, .int .i64 0, .int .i64 0, .int .i64 0, .int .i64 0, .bool false] 38)).heap.size = w.heap.size + 2 := by simp
  have h0 := (SlBk.new (T := 38) (x := ⟨0, 0, 0, ⟨0, 0, 0, 0, false⟩⟩) w).below hb1 (by simp)
  have h1 := SlBk.new (T := 38) (x := ⟨0, 0, 0, ⟨0, 0, 0, 0, false⟩⟩) (w.alloc (.cells #[.int .i64 0, .int .i64 0, .int .i64 0, .int .i64 0, .int .i64 0, .int .i64 0, .int .i64 0, .bool false] 38))
  rw [hs] at h1
  have hb := below_two hb0 hb1
  have HR := Lib.hid (rdB_later hr hb); have R0 := Lib.hid h0; have R1 := Lib.hid h1; have HB0 := Lib.hid hb; have HS2 := Lib.hid hs2
  clear hr hb0 hb1 hs hs2 h0 h1 hb
  go_enter Try.func31, Try.ntmps31
  go_upto_region 1 with fail
  generalize (w.alloc (.cells #[.int .i64 0, .int .i64 0, .int .i64 0, .int .i64 0, .int .i64 0, .int .i64 0, .int .i64 0, .bool false] 38)).alloc (.cells #[.int .i64 0, .int .i64 0, .int .i64 0, .int .i64 0, .int .i64 0, .int .i64 0, .int .i64 0, .bool false] 38) = w0 at HR R0 R1 HB0 HS2 ⊢
  go_wp2_with fail
  refine (from_any _ _ _ cs _ HR.out hn).mono ?_
  rintro e w1 ⟨p, rfl, hlo, hs1, hb1⟩
  have HD1 := Lib.hid (show DrC w w1 p ⟨0, 0, 0, ⟨0, 0, 0, 0, false⟩⟩ ⟨0, 0, 0, ⟨0, 0, 0, 0, false⟩⟩ from ⟨R0.out.below hb1 R0.out.lt, R1.out.below hb1 R1.out.lt, hs1, HB0.out.trans (hb1.mono HB0.out.size), by have := HS2.out; omega⟩)
  clear hlo hs1 hb1 R0 R1 HB0 HS2 HR
  go_wp2_with fail
  refine (next_any _ _ _ HD1.out.src (by omega)).mono ?_
  rintro e w2 ⟨a, rfl, a0, -, -, hs2, g2⟩
  have HD2 := Lib.hid (HD1.out.next hs2 g2); clear hs2 g2 HD1 a0
  go_wp2_with fail
  refine (next_any _ _ _ HD2.out.src (by omega)).mono ?_
  rintro e w3 ⟨b, rfl, b0, -, -, hs3, g3⟩
  have HD3 := Lib.hid (HD2.out.next hs3 g3); clear hs3 g3 HD2 b0
  go_wp2_with fail
  refine (next_any _ _ _ HD3.out.src (by omega)).mono ?_
  rintro e w4 ⟨c, rfl, c0, -, -, hs4, g4⟩
  have HD4 := Lib.hid (HD3.out.next hs4 g4); clear hs4 g4 HD3 c0
  have hb5 := (Below.refl w4.heap.size w4).alloc (Nat.le_refl _) (.cells #[.int .i64 a, .int .i64 b, .int .i64 c, .int .i64 0, .int .i64 0, .int .i64 0, .int .i64 0, .bool false] 38)
  have HD5 := Lib.hid (HD4.out.call hb5)
  have X5 := Lib.hid (SlBk.new (T := 38) (x := ⟨a, b, c, ⟨0, 0, 0, 0, false⟩⟩) w4)
  have hJ : p < w4.heap.size := HD4.out.src.lt
  clear hb5 HD4
  go_upto_region 3 with fail
  generalize w4.heap.size = J at X5 hJ ⊢
  generalize w4.alloc (.cells #[.int .i64 a, .int .i64 b, .int .i64 c, .int .i64 0, .int .i64 0, .int .i64 0, .int .i64 0, .bool false] 38) = w5 at HD5 X5 ⊢
  have hJp : (some J : Option Nat) ≠ some p := by simp; omega
  go_wp2_with fail
  refine (next_any _ _ _ HD5.out.src (by omega)).mono ?_
  rintro e w6 ⟨y, rfl, y0, -, -, hs6, g6⟩
  have HD6 := Lib.hid (HD5.out.next hs6 g6); have X6 := Lib.hid (X5.out.grown g6 hJp); clear hs6 g6 HD5 X5 y0
  by_cases hy : y = 0
  · subst hy
    go_upto_region 4 with fail
    have HD7 := Lib.hid (HD6.out.call (Below.drew (Below.refl _ _))); have X7 := Lib.hid (X6.out.below (Below.drew (Below.refl _ _)) X6.out.lt); clear HD6 X6
    refine wp_region_held_drew (S := fun w' => w'.cell? ⟨J, 0, none⟩ = some (Value.int .i64 a) ∧ w'.cell? ⟨J, 1, none⟩ = some (Value.int .i64 b) ∧ w'.cell? ⟨J, 2, none⟩ = some (Value.int .i64 c) ∧ w'.cell? ⟨J, 3, none⟩ = some (Value.int .i64 0) ∧ w'.cell? ⟨J, 4, none⟩ = some (Value.int .i64 0) ∧ w'.cell? ⟨J, 5, none⟩ = some (Value.int .i64 0) ∧ w'.cell? ⟨J, 6, none⟩ = some (Value.int .i64 0) ∧ w'.cell? ⟨J, 7, none⟩ = some (Value.bool false)) (by kernel_rfl) (X7.out.all8) (fun hHeld => ?_)
    generalize w6.drew = w7 at HD7 X7 hHeld ⊢
    refine wpAnyH_take (i := 0) (v := ?_) rfl (by kernel_rfl) (by kernel_rfl) (by kernel_rfl) (fun _ _ _ h => h) (Or.inl ⟨by rfl, ?_⟩) (by assumption) ?_
    rotate_left
    · (intro w hSw; (try dsimp only at hSw); go_simp; (try with_reducible rfl))
    try simp only [List.getElem_toArray, List.getElem_cons_succ, List.getElem_cons_zero, Act.put, List.setIfInBounds_toArray, List.set_cons_zero, List.set_cons_succ]
    refine wpAnyH_take (i := 1) (v := ?_) rfl (by kernel_rfl) (by kernel_rfl) (by kernel_rfl) (fun _ _ _ h => h) (Or.inl ⟨by rfl, ?_⟩) (by assumption) ?_
    rotate_left
    · (intro w hSw; (try dsimp only at hSw); go_simp; (try with_reducible rfl))
    try simp only [List.getElem_toArray, List.getElem_cons_succ, List.getElem_cons_zero, Act.put, List.setIfInBounds_toArray, List.set_cons_zero, List.set_cons_succ]
    refine wpAnyH_take (i := 2) (v := ?_) rfl (by kernel_rfl) (by kernel_rfl) (by kernel_rfl) (fun _ _ _ h => h) (Or.inl ⟨by rfl, ?_⟩) (by assumption) ?_
    rotate_left
    · (intro w hSw; (try dsimp only at hSw); go_simp; (try with_reducible rfl))
    try simp only [List.getElem_toArray, List.getElem_cons_succ, List.getElem_cons_zero, Act.put, List.setIfInBounds_toArray, List.set_cons_zero, List.set_cons_succ]
    refine wpAnyH_take (i := 3) (v := ?_) rfl (by kernel_rfl) (by kernel_rfl) (by kernel_rfl) (fun _ _ _ h => h) (Or.inl ⟨by rfl, ?_⟩) (by assumption) ?_
    rotate_left
    · (intro w hSw; (try dsimp only at hSw); go_simp; (try with_reducible rfl))
    try simp only [List.getElem_toArray, List.getElem_cons_succ, List.getElem_cons_zero, Act.put, List.setIfInBounds_toArray, List.set_cons_zero, List.set_cons_succ]
    refine wpAnyH_take (i := 4) (v := ?_) rfl (by kernel_rfl) (by kernel_rfl) (by kernel_rfl) (fun _ _ _ h => h) (Or.inl ⟨by rfl, ?_⟩) (by assumption) ?_
    rotate_left
    · (intro w hSw; (try dsimp only at hSw); go_simp; (try with_reducible rfl))
    try simp only [List.getElem_toArray, List.getElem_cons_succ, List.getElem_cons_zero, Act.put, List.setIfInBounds_toArray, List.set_cons_zero, List.set_cons_succ]
    refine wpAnyH_take (i := 5) (v := ?_) rfl (by kernel_rfl) (by kernel_rfl) (by kernel_rfl) (fun _ _ _ h => h) (Or.inl ⟨by rfl, ?_⟩) (by assumption) ?_
    rotate_left
    · (intro w hSw; (try dsimp only at hSw); go_simp; (try with_reducible rfl))
    try simp only [List.getElem_toArray, List.getElem_cons_succ, List.getElem_cons_zero, Act.put, List.setIfInBounds_toArray, List.set_cons_zero, List.set_cons_succ]
    refine wpAnyH_ready (rs := [6]) (by kernel_rfl) (by simp) (AllReadyH.cons rfl (fun K hK => ?_) AllReadyH.nil)
    go_simp
    refine (next_any _ _ _ HD7.out.src (by omega)).mono ?_
    rintro e w8 ⟨s, rfl, -, -, -, hs8, g8⟩
    have HD8 := Lib.hid (HD7.out.next hs8 g8); have X8 := Lib.hid (X7.out.grown g8 hJp); clear hs8 g8 HD7 X7
    go_wp2_with fail
    refine hK.out _ _ ?_ (fun hHeld => ?_)
    · exact X8.out.all8
    clear hK K
    try simp only [List.getElem_toArray, List.getElem_cons_succ, List.getElem_cons_zero, Act.put, List.setIfInBounds_toArray, List.set_cons_zero, List.set_cons_succ]
    refine wpAnyH_take (i := 7) (v := ?_) rfl (by kernel_rfl) (by kernel_rfl) (by kernel_rfl) (fun _ _ _ h => h) (Or.inl ⟨by rfl, ?_⟩) (by assumption) ?_
    rotate_left
    · (intro w hSw; (try dsimp only at hSw); go_simp; (try with_reducible rfl))
    try simp only [List.getElem_toArray, List.getElem_cons_succ, List.getElem_cons_zero, Act.put, List.setIfInBounds_toArray, List.set_cons_zero, List.set_cons_succ]
    obtain ⟨z0, z1, z2, z3, z4, z5, z6, z7⟩ := HD8.out.one.all8
    dsimp only at z0 z1 z2 z3 z4 z5 z6 z7
    have f0 := HD8.out.one.f 0
    have f1 := HD8.out.one.f 1
    have f2 := HD8.out.one.f 2
    have f3 := HD8.out.one.f 3
    have f4 := HD8.out.one.f 4
    have f5 := HD8.out.one.f 5
    have f6 := HD8.out.one.f 6
    have f7 := HD8.out.one.f 7
    refine wpAnyH_ready (rs := [8]) (by kernel_rfl) (by simp) (AllReadyH.cons rfl (fun K hK => ?_) AllReadyH.nil)
    go_simp
    clear z0 z1 z2 z3 z4 z5 z6 z7 f0 f1 f2 f3 f4 f5 f6 f7
    obtain ⟨S1, T1, B1⟩ := HD8.out.put1 ⟨a, b, c, ⟨0, 0, 0, 0, false⟩⟩
    have XS := X8.out.other0 (c := w.heap.size) ⟨a, b, c, ⟨0, 0, 0, 0, false⟩⟩ (by have := HD8.out.lo; omega)
    have hset : setS0 w8 w.heap.size ⟨a, b, c, ⟨0, 0, 0, 0, false⟩⟩ = _ := rfl
    unfold setS0 setSlD at hset S1 T1 B1 XS
    dsimp only at hset S1 T1 B1 XS
    generalize ((((((((w8.setCell ⟨w.heap.size, 0, none⟩ (.int .i64 a)).setCell ⟨w.heap.size, 1, none⟩ (.int .i64 b)).setCell ⟨w.heap.size, 2, none⟩ (.int .i64 c)).setCell ⟨w.heap.size, 3, none⟩ (.int .i64 0)).setCell ⟨w.heap.size, 4, none⟩ (.int .i64 0)).setCell ⟨w.heap.size, 5, none⟩ (.int .i64 0)).setCell ⟨w.heap.size, 6, none⟩ (.int .i64 0)).setCell ⟨w.heap.size, 7, none⟩ (.bool false)) = wa at S1 T1 B1 XS ⊢
    clear hset
    have HS1 := Lib.hid S1; have HT1 := Lib.hid T1; have HB1 := Lib.hid B1; have HXS := Lib.hid XS; clear S1 T1 B1 XS
    refine hK.out _ _ ?_ (fun hHeld => ?_)
    · exact HXS.out.all8
    clear hK K
    try simp only [List.getElem_toArray, List.getElem_cons_succ, List.getElem_cons_zero, Act.put, List.setIfInBounds_toArray, List.set_cons_zero, List.set_cons_succ]
    obtain ⟨z0, z1, z2, z3, z4, z5, z6, z7⟩ := HT1.out.all8
    dsimp only at z0 z1 z2 z3 z4 z5 z6 z7
    have f0 := HT1.out.f 0
    have f1 := HT1.out.f 1
    have f2 := HT1.out.f 2
    have f3 := HT1.out.f 3
    have f4 := HT1.out.f 4
    have f5 := HT1.out.f 5
    have f6 := HT1.out.f 6
    have f7 := HT1.out.f 7
    refine wpAnyH_ready (rs := [9]) (by kernel_rfl) (by simp) (AllReadyH.cons rfl (fun K hK => ?_) AllReadyH.nil)
    go_simp
    clear z0 z1 z2 z3 z4 z5 z6 z7 f0 f1 f2 f3 f4 f5 f6 f7
    have S2 := HS1.out.other0 (c := w.heap.size + 1) ⟨a, b, s, ⟨0, 0, 0, 0, false⟩⟩ (by omega)
    have T2 := HT1.out.put0 ⟨a, b, s, ⟨0, 0, 0, 0, false⟩⟩
    have B2 := HB1.out.grown (grown_setS0 wa (w.heap.size + 1) ⟨a, b, s, ⟨0, 0, 0, 0, false⟩⟩) HB1.out.size (fun k hk => by cases hk; omega)
    have XS := HXS.out.other0 (c := w.heap.size + 1) ⟨a, b, s, ⟨0, 0, 0, 0, false⟩⟩ (by have := HD8.out.lo; omega)
    unfold setS0 setSlD at S2 T2 B2 XS
    dsimp only at S2 T2 B2 XS
    generalize ((((((((wa.setCell ⟨w.heap.size + 1, 0, none⟩ (.int .i64 a)).setCell ⟨w.heap.size + 1, 1, none⟩ (.int .i64 b)).setCell ⟨w.heap.size + 1, 2, none⟩ (.int .i64 s)).setCell ⟨w.heap.size + 1, 3, none⟩ (.int .i64 0)).setCell ⟨w.heap.size + 1, 4, none⟩ (.int .i64 0)).setCell ⟨w.heap.size + 1, 5, none⟩ (.int .i64 0)).setCell ⟨w.heap.size + 1, 6, none⟩ (.int .i64 0)).setCell ⟨w.heap.size + 1, 7, none⟩ (.bool false)) = wb at S2 T2 B2 XS ⊢
    have HS2 := Lib.hid S2; have HT2 := Lib.hid T2; have HB2 := Lib.hid B2; have HXS2 := Lib.hid XS; clear S2 T2 B2 XS
    refine hK.out _ _ ?_ (fun hHeld => ?_)
    · exact HXS2.out.all8
    clear hK K
    try simp only [List.getElem_toArray, List.getElem_cons_succ, List.getElem_cons_zero, Act.put, List.setIfInBounds_toArray, List.set_cons_zero, List.set_cons_succ]
    refine wpAnyH_done (by kernel_rfl) ?_ _
    go_wp2_with fail
    obtain ⟨e0, e1, e2, e3, e4, e5, e6, e7⟩ := HS2.out.all8
    obtain ⟨d0, d1, d2, d3, d4, d5, d6, d7⟩ := HT2.out.all8
    dsimp only at e0 e1 e2 e3 e4 e5 e6 e7 d0 d1 d2 d3 d4 d5 d6 d7
    exact bodyPost_ret (v := .tuple #[slVal ⟨a, b, c, ⟨0, 0, 0, 0, false⟩⟩, slVal ⟨a, b, s, ⟨0, 0, 0, 0, false⟩⟩]) (by simp [results, Try.results31, go_sem, slVal, e0, e1, e2, e3, e4, e5, e6, e7, d0, d1, d2, d3, d4, d5, d6, d7]) rfl ⟨⟨a, b, c, ⟨0, 0, 0, 0, false⟩⟩, ⟨a, b, s, ⟨0, 0, 0, 0, false⟩⟩, rfl, HB2.out⟩
  · have hyb : (y == 0) = false := by simp [hy]
    clear hy
    go_upto_region 5 with fail
    have HD7 := Lib.hid (HD6.out.call (Below.drew (Below.refl _ _))); have X7 := Lib.hid (X6.out.below (Below.drew (Below.refl _ _)) X6.out.lt); clear HD6 X6
    refine wp_region_held_drew (S := fun w' => w'.cell? ⟨J, 0, none⟩ = some (Value.int .i64 a) ∧ w'.cell? ⟨J, 1, none⟩ = some (Value.int .i64 b) ∧ w'.cell? ⟨J, 2, none⟩ = some (Value.int .i64 c) ∧ w'.cell? ⟨J, 3, none⟩ = some (Value.int .i64 0) ∧ w'.cell? ⟨J, 4, none⟩ = some (Value.int .i64 0) ∧ w'.cell? ⟨J, 5, none⟩ = some (Value.int .i64 0) ∧ w'.cell? ⟨J, 6, none⟩ = some (Value.int .i64 0) ∧ w'.cell? ⟨J, 7, none⟩ = some (Value.bool false)) (by kernel_rfl) (X7.out.all8) (fun hHeld => ?_)
    generalize w6.drew = w7 at HD7 X7 hHeld ⊢
    refine wpAnyH_take (i := 0) (v := ?_) rfl (by kernel_rfl) (by kernel_rfl) (by kernel_rfl) (fun _ _ _ h => h) (Or.inl ⟨by rfl, ?_⟩) (by assumption) ?_
    rotate_left
    · (intro w hSw; (try dsimp only at hSw); go_simp; (try with_reducible rfl))
    try simp only [List.getElem_toArray, List.getElem_cons_succ, List.getElem_cons_zero, Act.put, List.setIfInBounds_toArray, List.set_cons_zero, List.set_cons_succ]
    refine wpAnyH_take (i := 1) (v := ?_) rfl (by kernel_rfl) (by kernel_rfl) (by kernel_rfl) (fun _ _ _ h => h) (Or.inl ⟨by rfl, ?_⟩) (by assumption) ?_
    rotate_left
    · (intro w hSw; (try dsimp only at hSw); go_simp; (try with_reducible rfl))
    try simp only [List.getElem_toArray, List.getElem_cons_succ, List.getElem_cons_zero, Act.put, List.setIfInBounds_toArray, List.set_cons_zero, List.set_cons_succ]
    refine wpAnyH_take (i := 3) (v := ?_) rfl (by kernel_rfl) (by kernel_rfl) (by kernel_rfl) (fun _ _ _ h => h) (Or.inl ⟨by rfl, ?_⟩) (by assumption) ?_
    rotate_left
    · (intro w hSw; (try dsimp only at hSw); go_simp; (try with_reducible rfl))
    try simp only [List.getElem_toArray, List.getElem_cons_succ, List.getElem_cons_zero, Act.put, List.setIfInBounds_toArray, List.set_cons_zero, List.set_cons_succ]
    refine wpAnyH_take (i := 5) (v := ?_) rfl (by kernel_rfl) (by kernel_rfl) (by kernel_rfl) (fun _ _ _ h => h) (Or.inl ⟨by rfl, ?_⟩) (by assumption) ?_
    rotate_left
    · (intro w hSw; (try dsimp only at hSw); go_simp; (try with_reducible rfl))
    try simp only [List.getElem_toArray, List.getElem_cons_succ, List.getElem_cons_zero, Act.put, List.setIfInBounds_toArray, List.set_cons_zero, List.set_cons_succ]
    refine wpAnyH_ready (rs := [2]) (by kernel_rfl) (by simp) (AllReadyH.cons rfl (fun K hK => ?_) AllReadyH.nil)
    go_simp
    refine (next_any _ _ _ HD7.out.src (by omega)).mono ?_
    rintro e w8 ⟨s, rfl, -, -, -, hs8, g8⟩
    have HD8 := Lib.hid (HD7.out.next hs8 g8); have X8 := Lib.hid (X7.out.grown g8 hJp); clear hs8 g8 HD7 X7
    go_wp2_with fail
    refine hK.out _ _ ?_ (fun hHeld => ?_)
    · exact X8.out.all8
    clear hK K
    try simp only [List.getElem_toArray, List.getElem_cons_succ, List.getElem_cons_zero, Act.put, List.setIfInBounds_toArray, List.set_cons_zero, List.set_cons_succ]
    refine wpAnyH_ready (rs := [4]) (by kernel_rfl) (by simp) (AllReadyH.cons rfl (fun K hK => ?_) AllReadyH.nil)
    go_simp
    refine (next_any _ _ _ HD8.out.src (by omega)).mono ?_
    rintro e w9 ⟨s2, rfl, -, -, -, hs9, g9⟩
    have HD9 := Lib.hid (HD8.out.next hs9 g9); have X9 := Lib.hid (X8.out.grown g9 hJp); clear hs9 g9 HD8 X8
    go_wp2_with fail
    refine hK.out _ _ ?_ (fun hHeld => ?_)
    · exact X9.out.all8
    clear hK K
    try simp only [List.getElem_toArray, List.getElem_cons_succ, List.getElem_cons_zero, Act.put, List.setIfInBounds_toArray, List.set_cons_zero, List.set_cons_succ]
    refine wpAnyH_ready (rs := [6]) (by kernel_rfl) (by simp) (AllReadyH.cons rfl (fun K hK => ?_) AllReadyH.nil)
    go_simp
    refine (next_any _ _ _ HD9.out.src (by omega)).mono ?_
    rintro e w10 ⟨s3, rfl, -, -, -, hs10, g10⟩
    have HD10 := Lib.hid (HD9.out.next hs10 g10); have X10 := Lib.hid (X9.out.grown g10 hJp); clear hs10 g10 HD9 X9
    go_wp2_with fail
    refine hK.out _ _ ?_ (fun hHeld => ?_)
    · exact X10.out.all8
    clear hK K
    try simp only [List.getElem_toArray, List.getElem_cons_succ, List.getElem_cons_zero, Act.put, List.setIfInBounds_toArray, List.set_cons_zero, List.set_cons_succ]
    refine wpAnyH_take (i := 7) (v := ?_) rfl (by kernel_rfl) (by kernel_rfl) (by kernel_rfl) (fun _ _ _ h => h) (Or.inl ⟨by rfl, ?_⟩) (by assumption) ?_
    rotate_left
    · (intro w hSw; (try dsimp only at hSw); go_simp; (try with_reducible rfl))
    try simp only [List.getElem_toArray, List.getElem_cons_succ, List.getElem_cons_zero, Act.put, List.setIfInBounds_toArray, List.set_cons_zero, List.set_cons_succ]
    obtain ⟨z0, z1, z2, z3, z4, z5, z6, z7⟩ := HD10.out.one.all8
    dsimp only at z0 z1 z2 z3 z4 z5 z6 z7
    have f0 := HD10.out.one.f 0
    have f1 := HD10.out.one.f 1
    have f2 := HD10.out.one.f 2
    have f3 := HD10.out.one.f 3
    have f4 := HD10.out.one.f 4
    have f5 := HD10.out.one.f 5
    have f6 := HD10.out.one.f 6
    have f7 := HD10.out.one.f 7
    refine wpAnyH_ready (rs := [8]) (by kernel_rfl) (by simp) (AllReadyH.cons rfl (fun K hK => ?_) AllReadyH.nil)
    go_simp
    clear z0 z1 z2 z3 z4 z5 z6 z7 f0 f1 f2 f3 f4 f5 f6 f7
    obtain ⟨S1, T1, B1⟩ := HD10.out.put1 ⟨a, b, c, ⟨0, 0, 0, 0, false⟩⟩
    have XS := X10.out.other0 (c := w.heap.size) ⟨a, b, c, ⟨0, 0, 0, 0, false⟩⟩ (by have := HD10.out.lo; omega)
    have hset : setS0 w10 w.heap.size ⟨a, b, c, ⟨0, 0, 0, 0, false⟩⟩ = _ := rfl
    unfold setS0 setSlD at hset S1 T1 B1 XS
    dsimp only at hset S1 T1 B1 XS
    generalize ((((((((w10.setCell ⟨w.heap.size, 0, none⟩ (.int .i64 a)).setCell ⟨w.heap.size, 1, none⟩ (.int .i64 b)).setCell ⟨w.heap.size, 2, none⟩ (.int .i64 c)).setCell ⟨w.heap.size, 3, none⟩ (.int .i64 0)).setCell ⟨w.heap.size, 4, none⟩ (.int .i64 0)).setCell ⟨w.heap.size, 5, none⟩ (.int .i64 0)).setCell ⟨w.heap.size, 6, none⟩ (.int .i64 0)).setCell ⟨w.heap.size, 7, none⟩ (.bool false)) = wa at S1 T1 B1 XS ⊢
    clear hset
    have HS1 := Lib.hid S1; have HT1 := Lib.hid T1; have HB1 := Lib.hid B1; have HXS := Lib.hid XS; clear S1 T1 B1 XS
    refine hK.out _ _ ?_ (fun hHeld => ?_)
    · exact HXS.out.all8
    clear hK K
    try simp only [List.getElem_toArray, List.getElem_cons_succ, List.getElem_cons_zero, Act.put, List.setIfInBounds_toArray, List.set_cons_zero, List.set_cons_succ]
    obtain ⟨z0, z1, z2, z3, z4, z5, z6, z7⟩ := HT1.out.all8
    dsimp only at z0 z1 z2 z3 z4 z5 z6 z7
    have f0 := HT1.out.f 0
    have f1 := HT1.out.f 1
    have f2 := HT1.out.f 2
    have f3 := HT1.out.f 3
    have f4 := HT1.out.f 4
    have f5 := HT1.out.f 5
    have f6 := HT1.out.f 6
    have f7 := HT1.out.f 7
    refine wpAnyH_ready (rs := [9]) (by kernel_rfl) (by simp) (AllReadyH.cons rfl (fun K hK => ?_) AllReadyH.nil)
    go_simp
    clear z0 z1 z2 z3 z4 z5 z6 z7 f0 f1 f2 f3 f4 f5 f6 f7
    have S2 := HS1.out.other0 (c := w.heap.size + 1) ⟨s, s2, s3, ⟨0, 0, 0, 0, false⟩⟩ (by omega)
    have T2 := HT1.out.put0 ⟨s, s2, s3, ⟨0, 0, 0, 0, false⟩⟩
    have B2 := HB1.out.grown (grown_setS0 wa (w.heap.size + 1) ⟨s, s2, s3, ⟨0, 0, 0, 0, false⟩⟩) HB1.out.size (fun k hk => by cases hk; omega)
    have XS := HXS.out.other0 (c := w.heap.size + 1) ⟨s, s2, s3, ⟨0, 0, 0, 0, false⟩⟩ (by have := HD10.out.lo; omega)
    unfold setS0 setSlD at S2 T2 B2 XS
    dsimp only at S2 T2 B2 XS
    generalize ((((((((wa.setCell ⟨w.heap.size + 1, 0, none⟩ (.int .i64 s)).setCell ⟨w.heap.size + 1, 1, none⟩ (.int .i64 s2)).setCell ⟨w.heap.size + 1, 2, none⟩ (.int .i64 s3)).setCell ⟨w.heap.size + 1, 3, none⟩ (.int .i64 0)).setCell ⟨w.heap.size + 1, 4, none⟩ (.int .i64 0)).setCell ⟨w.heap.size + 1, 5, none⟩ (.int .i64 0)).setCell ⟨w.heap.size + 1, 6, none⟩ (.int .i64 0)).setCell ⟨w.heap.size + 1, 7, none⟩ (.bool false)) = wb at S2 T2 B2 XS ⊢
    have HS2 := Lib.hid S2; have HT2 := Lib.hid T2; have HB2 := Lib.hid B2; have HXS2 := Lib.hid XS; clear S2 T2 B2 XS
    refine hK.out _ _ ?_ (fun hHeld => ?_)
    · exact HXS2.out.all8
    clear hK K
    try simp only [List.getElem_toArray, List.getElem_cons_succ, List.getElem_cons_zero, Act.put, List.setIfInBounds_toArray, List.set_cons_zero, List.set_cons_succ]
    refine wpAnyH_done (by kernel_rfl) ?_ _
    go_wp2_with fail
    obtain ⟨e0, e1, e2, e3, e4, e5, e6, e7⟩ := HS2.out.all8
    obtain ⟨d0, d1, d2, d3, d4, d5, d6, d7⟩ := HT2.out.all8
    dsimp only at e0 e1 e2 e3 e4 e5 e6 e7 d0 d1 d2 d3 d4 d5 d6 d7
    exact bodyPost_ret (v := .tuple #[slVal ⟨a, b, c, ⟨0, 0, 0, 0, false⟩⟩, slVal ⟨s, s2, s3, ⟨0, 0, 0, 0, false⟩⟩]) (by simp [results, Try.results31, go_sem, slVal, e0, e1, e2, e3, e4, e5, e6, e7, d0, d1, d2, d3, d4, d5, d6, d7]) rfl ⟨⟨a, b, c, ⟨0, 0, 0, 0, false⟩⟩, ⟨s, s2, s3, ⟨0, 0, 0, 0, false⟩⟩, rfl, HB2.out⟩
end Go.Proofs.Ytggnoeeaoligdaa
