/-
  Chapter 6: frames drawn that need not be valid: l06DrawAny, DrawFrameBody.
  Chapter 6: DrawFrameBody, DrawFrameFromBody.
-/
import Derived.Test.YtbdfnkhmnglpbaaGI
import Derived.Test.YtbdfnkhmnglpbaaFourD
import Derived.Test.YtbdfnkhmnglpbaaDrawC
namespace Go.Proofs.Ytbdfnkhmnglpbaa
section
open Go.RowKit

theorem grown_fiveAt (w : World) (b o : Nat) (t m r s k : Int) : w.grownBy (setFiveAt w b o t m r s k) (some b) :=
  grown_trans (grown_trans (grown_trans (grown_trans (grown_setCell w b o _) (grown_setCell _ b (o + 1) _)) (grown_setCell _ b (o + 2) _)) (grown_setCell _ b (o + 3) _)) (grown_setCell _ b (o + 4) _)
/-- A slice keeps while another block is written. -/
theorem Own.far {E base J : Nat} {w w' : World} {v : Value} {xs : List Int} (h : Own E w base v xs) (hj : ∀ k, v.ownBlock = some k → k < J) (g : w.grownBy w' (some J)) : Own E w' base v xs := by
  refine h.only g ?_
  cases hk : v.ownBlock with
  | none => exact .inl rfl
  | some i => exact .inr (fun e => by have := hj i hk; simp only [Option.some.injEq] at e; omega)
theorem l06DrawAny_tail {w wi : World} {p J : Nat} {a q t m r s k : Int} {v : Value} {xs : List Int} (h : DrawSt w wi p J a q t m r s k v) (o : Own 2 wi (w.heap.size + 1) v xs) (hl : xs.length ≤ 9000) :
    FrameAt 28 (setEight wi w.heap.size a q t m r s k v) w.heap.size a q t m r s k v ∧ DrawnFrame w p (.returned (.agg #[.int .i64 a, .int .i64 q, .int .i64 t, .int .i64 m, .int .i64 r, .int .i64 s, .int .i64 k, v])) (setEight wi w.heap.size a q t m r s k v) := by
  obtain ⟨SF, SS, SG⟩ := h.fin a q t m r s k v
  have OF := (o.awayEight (b := w.heap.size) (Nat.lt_succ_self _) a q t m r s k v).more (base' := w.heap.size) (Nat.le_succ _)
  obtain ⟨ao, cap, rfl, o', -⟩ := OF.get
  exact ⟨SF, a, q, t, m, r, s, k, ao, cap, xs, rfl, o', hl, SS, SG⟩

set_option maxHeartbeats 4000000 in
set_option maxRecDepth 100000 in
theorem l06DrawAny_any (p : Nat) (w : World) (hs : Src 133 w p) : Calls Try.prog 68 #[.pointer (some ⟨p, 0, none⟩)] w (DrawnFrame w p) := by
  have hp := hs.lt
  have HA := Lib.hid (Below.alloc (Below.refl w.heap.size w) (Nat.le_refl _) (.cells #[.int .i64 0, .int .i64 0, .int .i64 0, .int .i64 0, .int .i64 0, .int .i64 0, .int .i64 0, .slice none 0 0] 28))
  have S0 := Lib.hid (hs.below HA.out)
  clear hs
  go_enter Try.func68, Try.ntmps68
  go_wp2_with fail
  refine (l06Draw_any _ _ S0.out).mono ?_
  rintro e w1 ⟨a, q, t, m, r, s, k, ao, cap, d, rfl, o1, hdl, hs1, g1⟩
  rw [show (w.alloc (.cells #[.int .i64 0, .int .i64 0, .int .i64 0, .int .i64 0, .int .i64 0, .int .i64 0, .int .i64 0, .slice none 0 0] 28)).heap.size = w.heap.size + 1 from by simp] at o1
  have D1 := Lib.hid (DrawSt.start (a := a) (q := q) (t := t) (m := m) (r := r) (s := s) (k := k) (v := .slice ao d.length cap) hs1 g1 hp)
  have b1 : Below w1.heap.size w1 (w1.alloc (.cells #[.int .i64 a, .int .i64 q, .int .i64 t, .int .i64 m, .int .i64 r, .int .i64 s, .int .i64 k, .slice ao d.length cap] 28)) := (Below.refl _ _).alloc (Nat.le_refl _) _
  have O1 := Lib.hid (o1.below b1)
  have hvj : ∀ i, (Value.slice ao d.length cap).ownBlock = some i → i < w1.heap.size := fun i hi => (o1.block i hi).2
  clear hs1 g1 S0 HA b1 o1
  go_wp2_with fail
  obtain ⟨J, hJ⟩ : ∃ b, b = w1.heap.size := ⟨_, rfl⟩
  rw [← hJ] at D1 hvj ⊢
  clear hJ
  generalize w1.alloc (.cells #[.int .i64 a, .int .i64 q, .int .i64 t, .int .i64 m, .int .i64 r, .int .i64 s, .int .i64 k, .slice ao d.length cap] 28) = w2 at D1 O1 ⊢
  have hpb : p < w.heap.size + 1 := by omega
  have HVJ := Lib.hid hvj; clear hvj
  refine (next_any _ _ _ D1.out.src (by omega)).mono ?_
  rintro e w3 ⟨y, rfl, -, -, -, hs3, g3⟩
  have D3 := Lib.hid (D1.out.next hs3 g3)
  have O3 := Lib.hid (O1.out.src g3 hpb)
  clear hs3 g3 D1 O1
  by_cases h0 : y = 0
  · subst h0
    go_wp2_with fail
    refine (next_any _ _ _ D3.out.src (by omega)).mono ?_
    rintro e w4 ⟨z, rfl, z0, z1, -, hs4, g4⟩
    have D4 := Lib.hid (D3.out.next hs4 g4)
    have O4 := Lib.hid (O3.out.src g4 hpb)
    replace z1 := z1 (by omega)
    have hw : IntKind.i64.wrap (z - 1) = z - 1 := by rw [IntKind.wrap_i64]; omega
    clear hs4 g4 D3 O3
    have c0 := D4.out.var.c0
    have f0 := D4.out.var.f 0
    go_upto_region 13 with fail
    clear c0 f0
    obtain ⟨u, hu⟩ : ∃ u, z - 1 = u := ⟨_, rfl⟩
    have D5 := Lib.hid (D4.out.cell 0 (.int .i64 u) (D4.out.var.set0 u))
    have O5 := Lib.hid (O4.out.far HVJ.out (grown_setCell _ J 0 (.int .i64 u)))
    try rw [hu]
    try generalize World.setCell w4 ⟨J, 0, none⟩ (.int .i64 u) = w5 at D5 O5 ⊢
    clear D4 O4 hw hu z0 z1
    have c0 := D5.out.var.c0
    have c1 := D5.out.var.c1
    have c2 := D5.out.var.c2
    have c3 := D5.out.var.c3
    have c4 := D5.out.var.c4
    have c5 := D5.out.var.c5
    have c6 := D5.out.var.c6
    have c7 := D5.out.var.c7
    have d0 := D5.out.res.c0
    have d1 := D5.out.res.c1
    have d2 := D5.out.res.c2
    have d3 := D5.out.res.c3
    have d4 := D5.out.res.c4
    have d5 := D5.out.res.c5
    have d6 := D5.out.res.c6
    have d7 := D5.out.res.c7
    have f0 := D5.out.res.f 0
    have f1 := D5.out.res.f 1
    have f2 := D5.out.res.f 2
    have f3 := D5.out.res.f 3
    have f4 := D5.out.res.f 4
    have f5 := D5.out.res.f 5
    have f6 := D5.out.res.f 6
    have f7 := D5.out.res.f 7
    go_wp2_with fail
    clear c0 c1 c2 c3 c4 c5 c6 c7 d0 d1 d2 d3 d4 d5 d6 d7 f0 f1 f2 f3 f4 f5 f6 f7
    change bodyPost _ _ _ _ _ (setEight w5 w.heap.size u q t m r s k (.slice ao d.length cap))
    obtain ⟨SF, HZ⟩ := l06DrawAny_tail D5.out O5.out hdl
    generalize setEight w5 w.heap.size u q t m r s k (.slice ao d.length cap) = wz at SF HZ ⊢
    have e0 := SF.c0
    have e1 := SF.c1
    have e2 := SF.c2
    have e3 := SF.c3
    have e4 := SF.c4
    have e5 := SF.c5
    have e6 := SF.c6
    have e7 := SF.c7
    exact bodyPost_ret (v := .agg #[.int .i64 u, .int .i64 q, .int .i64 t, .int .i64 m, .int .i64 r, .int .i64 s, .int .i64 k, .slice ao d.length cap]) (by simp [results, Try.results68, go_sem, e0, e1, e2, e3, e4, e5, e6, e7]) rfl HZ
  have t0 : (y == 0) = false := by simp [h0]
  by_cases h1 : y = 1
  · subst h1
    go_wp2_with fail
    have B3 := Lib.hid (Below.alloc (Below.refl w3.heap.size w3) (Nat.le_refl _) (.cells #[.int .i64 (-1), .int .i64 1, .int .i64 8] 2))
    have D3' := Lib.hid (D3.out.call B3.out)
    have O3' := Lib.hid (O3.out.below B3.out)
    refine (next_any _ _ _ D3'.out.src (by omega)).mono ?_
    rintro e w4 ⟨z, rfl, z0, z1, -, hs4, g4⟩
    replace z1 := z1 (by omega)
    obtain ⟨z, rfl⟩ := Int.eq_ofNat_of_zero_le z0
    have hz : z < 3 := by omega
    obtain ⟨u, hv⟩ : ∃ u : Int, (#[.int .i64 (-1), .int .i64 1, .int .i64 8] : Array Value)[z]? = some (.int .i64 u) := by
      match z, hz with
      | 0, _ => exact ⟨_, rfl⟩
      | 1, _ => exact ⟨_, rfl⟩
      | 2, _ => exact ⟨_, rfl⟩
    have hct := (table_cell g4 D3.out.src.lt z).trans hv
    have D4 := Lib.hid (D3'.out.next hs4 g4)
    have O4 := Lib.hid (O3'.out.src g4 hpb)
    clear hs4 g4 D3 O3 D3' O3' B3 z0 hv hz
    have c1 := D4.out.var.c1
    have f1 := D4.out.var.f 1
    go_upto_region 13 with fail
    clear c1 f1 hct
    have D5 := Lib.hid (D4.out.cell 1 (.int .i64 u) (D4.out.var.set1 u))
    have O5 := Lib.hid (O4.out.far HVJ.out (grown_setCell _ J 1 (.int .i64 u)))
    generalize World.setCell w4 ⟨J, 1, none⟩ (.int .i64 u) = w5 at D5 O5 ⊢
    clear D4 O4
    have c0 := D5.out.var.c0
    have c1 := D5.out.var.c1
    have c2 := D5.out.var.c2
    have c3 := D5.out.var.c3
    have c4 := D5.out.var.c4
    have c5 := D5.out.var.c5
    have c6 := D5.out.var.c6
    have c7 := D5.out.var.c7
    have d0 := D5.out.res.c0
    have d1 := D5.out.res.c1
    have d2 := D5.out.res.c2
    have d3 := D5.out.res.c3
    have d4 := D5.out.res.c4
    have d5 := D5.out.res.c5
    have d6 := D5.out.res.c6
    have d7 := D5.out.res.c7
    have f0 := D5.out.res.f 0
    have f1 := D5.out.res.f 1
    have f2 := D5.out.res.f 2
    have f3 := D5.out.res.f 3
    have f4 := D5.out.res.f 4
    have f5 := D5.out.res.f 5
    have f6 := D5.out.res.f 6
    have f7 := D5.out.res.f 7
    go_wp2_with fail
    clear c0 c1 c2 c3 c4 c5 c6 c7 d0 d1 d2 d3 d4 d5 d6 d7 f0 f1 f2 f3 f4 f5 f6 f7
    change bodyPost _ _ _ _ _ (setEight w5 w.heap.size a u t m r s k (.slice ao d.length cap))
    obtain ⟨SF, HZ⟩ := l06DrawAny_tail D5.out O5.out hdl
    generalize setEight w5 w.heap.size a u t m r s k (.slice ao d.length cap) = wz at SF HZ ⊢
    have e0 := SF.c0
    have e1 := SF.c1
    have e2 := SF.c2
    have e3 := SF.c3
    have e4 := SF.c4
    have e5 := SF.c5
    have e6 := SF.c6
    have e7 := SF.c7
    exact bodyPost_ret (v := .agg #[.int .i64 a, .int .i64 u, .int .i64 t, .int .i64 m, .int .i64 r, .int .i64 s, .int .i64 k, .slice ao d.length cap]) (by simp [results, Try.results68, go_sem, e0, e1, e2, e3, e4, e5, e6, e7]) rfl HZ
  have t1 : (y == 1) = false := by simp [h1]
  by_cases h2 : y = 2
  · subst h2
    go_wp2_with fail
    refine (l04DrawAny_any _ _ D3.out.src).mono ?_
    rintro e w4 ⟨t', m', r', s', k', rfl, hs4, g4⟩
    have D4 := Lib.hid (D3.out.next hs4 g4)
    have O4 := Lib.hid (O3.out.src g4 hpb)
    clear hs4 g4 D3 O3
    have c2 := D4.out.var.c2
    have f2 := D4.out.var.f 2
    have c3 := D4.out.var.c3
    have f3 := D4.out.var.f 3
    have c4 := D4.out.var.c4
    have f4 := D4.out.var.f 4
    have c5 := D4.out.var.c5
    have f5 := D4.out.var.f 5
    have c6 := D4.out.var.c6
    have f6 := D4.out.var.f 6
    go_upto_region 13 with fail
    clear c2 c3 c4 c5 c6 f2 f3 f4 f5 f6
    first | change Code.wp _ _ _ _ (setFiveAt w4 J 2 t' m' r' s' k') | change Exit.then _ _ _ _ (setFiveAt w4 J 2 t' m' r' s' k')
    have D5 := Lib.hid (D4.out.five t' m' r' s' k')
    have O5 := Lib.hid (O4.out.far HVJ.out (grown_fiveAt _ J 2 t' m' r' s' k'))
    generalize setFiveAt w4 J 2 t' m' r' s' k' = w5 at D5 O5 ⊢
    clear D4 O4
    have c0 := D5.out.var.c0
    have c1 := D5.out.var.c1
    have c2 := D5.out.var.c2
    have c3 := D5.out.var.c3
    have c4 := D5.out.var.c4
    have c5 := D5.out.var.c5
    have c6 := D5.out.var.c6
    have c7 := D5.out.var.c7
    have d0 := D5.out.res.c0
    have d1 := D5.out.res.c1
    have d2 := D5.out.res.c2
    have d3 := D5.out.res.c3
    have d4 := D5.out.res.c4
    have d5 := D5.out.res.c5
    have d6 := D5.out.res.c6
    have d7 := D5.out.res.c7
    have f0 := D5.out.res.f 0
    have f1 := D5.out.res.f 1
    have f2 := D5.out.res.f 2
    have f3 := D5.out.res.f 3
    have f4 := D5.out.res.f 4
    have f5 := D5.out.res.f 5
    have f6 := D5.out.res.f 6
    have f7 := D5.out.res.f 7
    go_wp2_with fail
    clear c0 c1 c2 c3 c4 c5 c6 c7 d0 d1 d2 d3 d4 d5 d6 d7 f0 f1 f2 f3 f4 f5 f6 f7
    change bodyPost _ _ _ _ _ (setEight w5 w.heap.size a q t' m' r' s' k' (.slice ao d.length cap))
    obtain ⟨SF, HZ⟩ := l06DrawAny_tail D5.out O5.out hdl
    generalize setEight w5 w.heap.size a q t' m' r' s' k' (.slice ao d.length cap) = wz at SF HZ ⊢
    have e0 := SF.c0
    have e1 := SF.c1
    have e2 := SF.c2
    have e3 := SF.c3
    have e4 := SF.c4
    have e5 := SF.c5
    have e6 := SF.c6
    have e7 := SF.c7
    exact bodyPost_ret (v := .agg #[.int .i64 a, .int .i64 q, .int .i64 t', .int .i64 m', .int .i64 r', .int .i64 s', .int .i64 k', .slice ao d.length cap]) (by simp [results, Try.results68, go_sem, e0, e1, e2, e3, e4, e5, e6, e7]) rfl HZ
  have t2 : (y == 2) = false := by simp [h2]
  by_cases h3 : y = 3
  · subst h3
    go_wp2_with fail
    refine (drawBytes_any _ _ _ D3.out.src (by omega) (by omega)).mono ?_
    rintro e w4 ⟨v4, xs4, rfl, o4, hl4, hs4, g4⟩
    obtain ⟨ao4, cap4, rfl, o4, -⟩ := o4.get
    have D4 := Lib.hid (D3.out.next hs4 g4)
    have O4 := Lib.hid (o4.more (base' := w.heap.size + 1) (by have := D3.out.size; have := D3.out.lt; omega))
    have hj4 : J < w3.heap.size := D3.out.var.lt
    have o4' := Lib.hid o4
    clear o4 hs4 g4 D3 O3
    have c7 := D4.out.var.c7
    have f7 := D4.out.var.f 7
    go_upto_region 13 with fail
    clear c7 f7
    have D5 := Lib.hid (D4.out.cell 7 (.slice ao4 xs4.length cap4) (D4.out.var.set7 (.slice ao4 xs4.length cap4)))
    have O5 := Lib.hid ((o4'.out.away hj4 7 (.slice ao4 xs4.length cap4)).more (base' := w.heap.size + 1) (by have := D4.out.lt; omega))
    generalize World.setCell w4 ⟨J, 7, none⟩ (.slice ao4 xs4.length cap4) = w5 at D5 O5 ⊢
    clear D4 O4 o4'
    have c0 := D5.out.var.c0
    have c1 := D5.out.var.c1
    have c2 := D5.out.var.c2
    have c3 := D5.out.var.c3
    have c4 := D5.out.var.c4
    have c5 := D5.out.var.c5
    have c6 := D5.out.var.c6
    have c7 := D5.out.var.c7
    have d0 := D5.out.res.c0
    have d1 := D5.out.res.c1
    have d2 := D5.out.res.c2
    have d3 := D5.out.res.c3
    have d4 := D5.out.res.c4
    have d5 := D5.out.res.c5
    have d6 := D5.out.res.c6
    have d7 := D5.out.res.c7
    have f0 := D5.out.res.f 0
    have f1 := D5.out.res.f 1
    have f2 := D5.out.res.f 2
    have f3 := D5.out.res.f 3
    have f4 := D5.out.res.f 4
    have f5 := D5.out.res.f 5
    have f6 := D5.out.res.f 6
    have f7 := D5.out.res.f 7
    go_wp2_with fail
    clear c0 c1 c2 c3 c4 c5 c6 c7 d0 d1 d2 d3 d4 d5 d6 d7 f0 f1 f2 f3 f4 f5 f6 f7
    change bodyPost _ _ _ _ _ (setEight w5 w.heap.size a q t m r s k (.slice ao4 xs4.length cap4))
    obtain ⟨SF, HZ⟩ := l06DrawAny_tail D5.out O5.out hl4
    generalize setEight w5 w.heap.size a q t m r s k (.slice ao4 xs4.length cap4) = wz at SF HZ ⊢
    have e0 := SF.c0
    have e1 := SF.c1
    have e2 := SF.c2
    have e3 := SF.c3
    have e4 := SF.c4
    have e5 := SF.c5
    have e6 := SF.c6
    have e7 := SF.c7
    exact bodyPost_ret (v := .agg #[.int .i64 a, .int .i64 q, .int .i64 t, .int .i64 m, .int .i64 r, .int .i64 s, .int .i64 k, .slice ao4 xs4.length cap4]) (by simp [results, Try.results68, go_sem, e0, e1, e2, e3, e4, e5, e6, e7]) rfl HZ
  have t3 : (y == 3) = false := by simp [h3]
  by_cases h4 : y = 4
  · subst h4
    go_wp2_with fail
    refine (next_any _ _ _ D3.out.src (by omega)).mono ?_
    rintro e w4 ⟨z, rfl, z0, z1, -, hs4, g4⟩
    replace z1 := z1 (by omega)
    obtain ⟨z, rfl⟩ := Int.eq_ofNat_of_zero_le z0
    have hz : z < 2 := by omega
    have D4 := Lib.hid (D3.out.next hs4 g4)
    have hj4 : J + 1 ≤ w4.heap.size := D4.out.size
    have hw : IntKind.i64.wrap (32 + (z : Int)) = ((32 + z : Nat) : Int) := by rw [IntKind.wrap_i64]; omega
    clear hs4 g4 D3 O3 z0 z1
    go_upto_region 13 with (at_make; refine make_cap _ rfl _ _ rfl (J + 1) Try.underlying26 info64 _ _ _ _ (32 + z) (32 + z) rfl rfl (by first | omega | exact hw) (by first | omega | exact hw) (Nat.le_refl _) (by omega) hj4 ?_; intro w5 o5 b5; have D5 := Lib.hid (D4.out.app b5); have O5 := Lib.hid o5; clear o5 b5; have c7 := D5.out.var.c7; have f7 := D5.out.var.f 7)
    clear c7 f7
    have D6 := Lib.hid (D5.out.cell 7 (.slice (some ⟨w4.heap.size, 0, none⟩) (32 + z) (32 + z)) (D5.out.var.set7 (.slice (some ⟨w4.heap.size, 0, none⟩) (32 + z) (32 + z))))
    have O6 := Lib.hid ((O5.out.away (b := J) (Nat.lt_succ_self _) 7 (.slice (some ⟨w4.heap.size, 0, none⟩) (32 + z) (32 + z))).more (base' := w.heap.size + 1) (by have := D5.out.lt; omega))
    generalize World.setCell w5 ⟨J, 7, none⟩ (.slice (some ⟨w4.heap.size, 0, none⟩) (32 + z) (32 + z)) = w6 at D6 O6 ⊢
    clear D5 O5 D4 hw
    have hl6 : (List.replicate (32 + z) (0 : Int)).length ≤ 9000 := by simp; omega
    have c0 := D6.out.var.c0
    have c1 := D6.out.var.c1
    have c2 := D6.out.var.c2
    have c3 := D6.out.var.c3
    have c4 := D6.out.var.c4
    have c5 := D6.out.var.c5
    have c6 := D6.out.var.c6
    have c7 := D6.out.var.c7
    have d0 := D6.out.res.c0
    have d1 := D6.out.res.c1
    have d2 := D6.out.res.c2
    have d3 := D6.out.res.c3
    have d4 := D6.out.res.c4
    have d5 := D6.out.res.c5
    have d6 := D6.out.res.c6
    have d7 := D6.out.res.c7
    have f0 := D6.out.res.f 0
    have f1 := D6.out.res.f 1
    have f2 := D6.out.res.f 2
    have f3 := D6.out.res.f 3
    have f4 := D6.out.res.f 4
    have f5 := D6.out.res.f 5
    have f6 := D6.out.res.f 6
    have f7 := D6.out.res.f 7
    go_wp2_with fail
    clear c0 c1 c2 c3 c4 c5 c6 c7 d0 d1 d2 d3 d4 d5 d6 d7 f0 f1 f2 f3 f4 f5 f6 f7
    change bodyPost _ _ _ _ _ (setEight w6 w.heap.size a q t m r s k (.slice (some ⟨w4.heap.size, 0, none⟩) (32 + z) (32 + z)))
    obtain ⟨SF, HZ⟩ := l06DrawAny_tail D6.out O6.out hl6
    generalize setEight w6 w.heap.size a q t m r s k (.slice (some ⟨w4.heap.size, 0, none⟩) (32 + z) (32 + z)) = wz at SF HZ ⊢
    have e0 := SF.c0
    have e1 := SF.c1
    have e2 := SF.c2
    have e3 := SF.c3
    have e4 := SF.c4
    have e5 := SF.c5
    have e6 := SF.c6
    have e7 := SF.c7
    exact bodyPost_ret (v := .agg #[.int .i64 a, .int .i64 q, .int .i64 t, .int .i64 m, .int .i64 r, .int .i64 s, .int .i64 k, .slice (some ⟨w4.heap.size, 0, none⟩) (32 + z) (32 + z)]) (by simp [results, Try.results68, go_sem, e0, e1, e2, e3, e4, e5, e6, e7]) rfl HZ
  have t4 : (y == 4) = false := by simp [h4]
  clear h0 h1 h2 h3 h4
  have c0 := D3.out.var.c0
  have c1 := D3.out.var.c1
  have c2 := D3.out.var.c2
  have c3 := D3.out.var.c3
  have c4 := D3.out.var.c4
  have c5 := D3.out.var.c5
  have c6 := D3.out.var.c6
  have c7 := D3.out.var.c7
  have d0 := D3.out.res.c0
  have d1 := D3.out.res.c1
  have d2 := D3.out.res.c2
  have d3 := D3.out.res.c3
  have d4 := D3.out.res.c4
  have d5 := D3.out.res.c5
  have d6 := D3.out.res.c6
  have d7 := D3.out.res.c7
  have f0 := D3.out.res.f 0
  have f1 := D3.out.res.f 1
  have f2 := D3.out.res.f 2
  have f3 := D3.out.res.f 3
  have f4 := D3.out.res.f 4
  have f5 := D3.out.res.f 5
  have f6 := D3.out.res.f 6
  have f7 := D3.out.res.f 7
  go_wp2_with fail
  clear c0 c1 c2 c3 c4 c5 c6 c7 d0 d1 d2 d3 d4 d5 d6 d7 f0 f1 f2 f3 f4 f5 f6 f7
  change bodyPost _ _ _ _ _ (setEight w3 w.heap.size a q t m r s k (.slice ao d.length cap))
  obtain ⟨SF, HZ⟩ := l06DrawAny_tail D3.out O3.out hdl
  generalize setEight w3 w.heap.size a q t m r s k (.slice ao d.length cap) = wz at SF HZ ⊢
  have e0 := SF.c0
  have e1 := SF.c1
  have e2 := SF.c2
  have e3 := SF.c3
  have e4 := SF.c4
  have e5 := SF.c5
  have e6 := SF.c6
  have e7 := SF.c7
  exact bodyPost_ret (v := .agg #[.int .i64 a, .int .i64 q, .int .i64 t, .int .i64 m, .int .i64 r, .int .i64 s, .int .i64 k, .slice ao d.length cap]) (by simp [results, Try.results68, go_sem, e0, e1, e2, e3, e4, e5, e6, e7]) rfl HZ
/-- What a draw of a frame for a law leaves. -/
def DrawnFr (w : World) (e : Ending) (w' : World) : Prop :=
  ∃ (a q t m r s k : Int) (ao : Option Addr) (cap : Nat) (d : List Int), e = .returned (.agg #[.int .i64 a, .int .i64 q, .int .i64 t, .int .i64 m, .int .i64 r, .int .i64 s, .int .i64 k, .slice ao d.length cap]) ∧ Own 2 w' w.heap.size (.slice ao d.length cap) d ∧ d.length ≤ 9000 ∧ Below w.heap.size w w'
end

section
open Go.RowKit

/-- What a draw of a list of bytes leaves. -/
def DrawnXs (w : World) (e : Ending) (w' : World) : Prop :=
  ∃ ao cap, ∃ xs : List Int, e = .returned (.slice ao xs.length cap) ∧ Rd w' ao xs.length xs ∧ xs.length ≤ 9000 ∧ xs.length ≤ cap ∧ cap ≤ 9223372036854775807 ∧ Below w.heap.size w w'
theorem own_block1 {E base n : Nat} {w : World} {ao : Option Addr} {cap : Nat} {xs : List Int} (h : Own E w base (.slice ao n cap) xs) (hl : 0 < n) : ∃ g, ao = some ⟨g, 0, none⟩ := by
  obtain ⟨ao', cap', e, _, _, _, hg⟩ := h.form
  simp only [Value.slice.injEq] at e
  obtain ⟨rfl, hn, rfl⟩ := e
  rcases hg with hg | ⟨g, rfl, _, _⟩
  · simp at hg
    omega
  · exact ⟨g, rfl⟩
theorem rd_first {w : World} {g n k : Nat} {xs : List Int} (h : Rd w (some ⟨g, 0, none⟩) n xs) (hk : k ≤ n) : Rd w (some ⟨g, 0, none⟩) k (xs.take k) := h.first hk
theorem body_one {f : Fr} {xs : List Int} (h : frameBody f = (xs, 0)) : 1 ≤ xs.length ∧ xs.length ≤ 42 := by
  obtain ⟨h1, h2⟩ := body_yes h
  have := frameBytes_len f
  have := frameBytes_small h1
  rw [h2] at *
  omega
theorem body_code {f : Fr} {xs : List Int} {c : Int} (h : frameBody f = (xs, c)) : c = 0 ∨ c = 1 := by
  unfold frameBody at h
  split at h <;> simp only [Prod.mk.injEq] at h <;> omega
end
end Go.Proofs.Ytbdfnkhmnglpbaa
