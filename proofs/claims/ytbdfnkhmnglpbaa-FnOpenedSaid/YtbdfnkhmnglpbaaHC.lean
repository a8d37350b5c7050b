/-
  Chapter 7: DrawOpenFrame.
-/
import Derived.Test.YtbdfnkhmnglpbaaH9
import Derived.Deep.AppendLies
namespace Go.Proofs.Ytbdfnkhmnglpbaa
open Go.RowKit

section
variable {P : Program} {E T : Nat} (w : World) {ops : Array Oper} {o : Oper} {a : Act} {Q : Exit → Act → World → Prop}
/-- 'append(out, x...)' of a whole slice, at a step of a region that draws its order. -/
theorem step_list {K : Act → World → Prop} {E' : Prop} (hgd : o.guard = none) (s x : Operand)
    (ho : o.op = .call { callee := .builtin .append, args := #[s, x], argTypes := #[T, T] })
    (base : Nat) (ht : P.underlying T = some (.slice E)) (hi : Info64 P E)
    (v : Value) (xs : List Int) (hs : a.eval s = v) (hown : Own E w base v xs) (ad : Addr) (n c : Nat) (ys : List Int) (hx : a.eval x = .slice (some ad) n c) (hr : Rd w (some ad) n ys) (hn : 0 < n)
    (hlen : xs.length + n ≤ 4294967296) (hbase : base ≤ w.heap.size)
    (h : ∀ v' w', Own E w' base v' (xs ++ ys) → w.grownBy w' v.ownBlock → (v'.ownBlock = v.ownBlock ∨ v'.ownBlock = some w.heap.size) → K (a.put o.dst v') w') : if Region.wanted o (yielded ops a.tmps) = true then Oper.wp P o a w K Q else E' := by
  obtain ⟨i0, hi, hz0, hz1, hz2⟩ := info_parts hi
  have hl := hr.len
  refine step_append_lies w hgd s x T ho base E i0 (.int .i64 0) 1 8 ht hi hz0 hz1 hz2 rfl (by decide) v xs.length _ hs hown ad n c (ys.map (Value.int .i64)) hx (by rw [List.length_map, hl, Nat.mul_one]) ?_ (ints_oneCell _ _) hn (by unfold maxLen; omega) (by omega) hbase w.heap.size rfl ?_
  · intro j u hu
    rw [List.getElem?_map, Option.map_eq_some_iff] at hu
    obtain ⟨y, hy, rfl⟩ := hu
    have hj : j < n := by have := (List.getElem?_eq_some_iff.1 hy).1; omega
    obtain ⟨b, off, e, hc⟩ := hr.here (by omega)
    cases e
    rw [Addr.add_lit, hc j hj]
    simp [List.getD, hy]
  · intro g cap w' h1 h2 h3 _
    refine h _ w' ?_ h2 ?_
    · unfold Own
      rw [List.length_append, hl, List.map_append]
      exact h1
    · show some g = _ ∨ some g = _
      rcases h3 with h3 | h3
      · exact .inl h3.symm
      · exact .inr (by rw [h3])
end
/-- While a list to be opened is drawn: the result's block, the state in block K, the slices. -/
structure DOp (w w0 wi : World) (p K : Nat) (x0 x1 x2 x3 x4 : Int) (L : List (Value × List Int)) : Prop where
  h : HeldS 2 133 w0 wi p L
  ks : StateAt 25 wi K x0 x1 x2 x3 x4
  z : StateAt 25 wi w.heap.size 0 0 0 0 0
  b : Below w.heap.size w wi
  e : w0.heap.size = w.heap.size + 1
  hkp : K ≠ p
  hk : w0.heap.size ≤ K
section
variable {w w0 wi wj : World} {p K : Nat} {x0 x1 x2 x3 x4 : Int} {L : List (Value × List Int)} {v : Value} {xs : List Int}
theorem DOp.next (D : DOp w w0 wi p K x0 x1 x2 x3 x4 L) (hs : Src 133 wj p) (g : wi.grownBy wj (some p)) : DOp w w0 wj p K x0 x1 x2 x3 x4 L :=
  have h1 := D.h.lo
  have h2 := D.e
  have h3 := D.hkp
  ⟨D.h.next hs g, D.ks.grown g (by simp; omega), D.z.grown g (by simp; omega), only_below D.b g D.b.size (fun k hk => by cases hk; omega), D.e, D.hkp, D.hk⟩
theorem DOp.still (D : DOp w w0 wi p K x0 x1 x2 x3 x4 L) (b : Below wi.heap.size wi wj) : DOp w w0 wj p K x0 x1 x2 x3 x4 L :=
  ⟨D.h.still b, D.ks.below b D.ks.lt, D.z.below b D.z.lt, below_two D.b b, D.e, D.hkp, D.hk⟩
theorem DOp.draw (D : DOp w w0 wi p K x0 x1 x2 x3 x4 L) (o : Own 2 wj wi.heap.size v xs) (hs : Src 133 wj p) (g : wi.grownBy wj (some p)) : DOp w w0 wj p K x0 x1 x2 x3 x4 ((v, xs) :: L) :=
  have N := D.next hs g
  ⟨D.h.draw o hs g, N.ks, N.z, N.b, D.e, D.hkp, D.hk⟩
theorem DOp.make (D : DOp w w0 wi p K x0 x1 x2 x3 x4 L) (o : Own 2 wj wi.heap.size v xs) (b : Below wi.heap.size wi wj) : DOp w w0 wj p K x0 x1 x2 x3 x4 ((v, xs) :: L) :=
  have N := D.still b
  ⟨D.h.make o b, N.ks, N.z, N.b, D.e, D.hkp, D.hk⟩
/-- A number is stored into the slice. -/
theorem DOp.store {g n cap : Nat} (D : DOp w w0 wi p K x0 x1 x2 x3 x4 [(.slice (some ⟨g, 0, none⟩) n cap, xs)]) (hK : K ≠ g) (hl : xs.length = n) {i : Nat} (hi : i < n) (y : Int) : DOp w w0 (wi.setCell ⟨g, i, none⟩ (.int .i64 y)) p K x0 x1 x2 x3 x4 [(.slice (some ⟨g, 0, none⟩) n cap, xs.set i y)] := by
  have o := D.h.own _ (List.mem_singleton.2 rfl)
  have hg := (o.block g rfl).1
  have gr := grown_setCell wi g i (.int .i64 y)
  have h1 := D.h.lo
  have h2 := D.e
  have os := own_store o hl hi y
  exact ⟨⟨D.h.below.trans (os.2.2.2.mono (by omega)), D.h.lo, D.h.src.grown gr (fun k hk => by cases hk; omega), (fun q hq => by rw [List.mem_singleton] at hq; subst hq; exact os.2.2.1), List.pairwise_singleton _ _⟩,
    D.ks.grown gr (by simp; omega), D.z.grown gr (by simp; omega), only_below D.b gr D.b.size (fun k hk => by cases hk; omega), D.e, D.hkp, D.hk⟩
/-- The result's state is written. -/
theorem DOp.fin (D : DOp w w0 wi p K x0 x1 x2 x3 x4 L) (y0 y1 y2 y3 y4 : Int) : StateAt 25 (setFive wi w.heap.size y0 y1 y2 y3 y4) w.heap.size y0 y1 y2 y3 y4 ∧ StateAt 25 (setFive wi w.heap.size y0 y1 y2 y3 y4) K x0 x1 x2 x3 x4 ∧ Below w.heap.size w (setFive wi w.heap.size y0 y1 y2 y3 y4) ∧ (∀ q ∈ L, Own 2 (setFive wi w.heap.size y0 y1 y2 y3 y4) w0.heap.size q.1 q.2) := by
  have g := grown_five wi w.heap.size y0 y1 y2 y3 y4
  have h1 := D.h.lo
  have h2 := D.e
  have h3 := D.hk
  refine ⟨D.z.five y0 y1 y2 y3 y4, D.ks.grown g (by simp; omega), D.b.trans (below_five (Nat.le_refl _) _ _ _ _ _), fun q hq => ?_⟩
  have o := (D.h.own q hq).more (base' := w0.heap.size) (by omega)
  refine o.only g ?_
  cases hk : q.1.ownBlock with
  | none => exact .inl rfl
  | some i => exact .inr (fun e => by have := (o.block i hk).1; simp at e; omega)
end
/-- What a draw of a list, a number and a state leaves. -/
def DrawnOpen (w : World) (e : Ending) (w' : World) : Prop :=
  ∃ (ao : Option Addr) (cap : Nat) (xs : List Int) (id t m r s k : Int), e = .returned (.tuple #[.slice ao xs.length cap, .int .i64 id, .agg #[.int .i64 t, .int .i64 m, .int .i64 r, .int .i64 s, .int .i64 k]]) ∧ Rd w' ao xs.length xs ∧ xs.length ≤ 9000 ∧ xs.length ≤ cap ∧ cap ≤ 9223372036854775807 ∧ Below w.heap.size w w'
/-- What is known of the bytes of a sealed frame. -/
theorem seal_facts {f : Fr} {id t m r s k : Int} {out : List Int} (h : sealFrame f id t m r s k = (out, 0)) : 4 ≤ out.length ∧ out.length ≤ 45 ∧ inRange 0 16777215 id = true := by
  obtain ⟨hc, ho⟩ := seal_yes h
  obtain ⟨h1, -, h3⟩ := sealCode_0 hc
  have := frameBytes_len f
  have := frameBytes_small h1
  refine ⟨?_, ?_, h3⟩ <;> rw [ho, List.length_append, three_len] <;> omega
set_option linter.unusedSimpArgs false in
set_option linter.unusedVariables false in
set_option maxHeartbeats 2000000 in
set_option maxRecDepth 100000 in
theorem drawOpenFrame_any (ai : Option Addr) (n capi : Nat) (cs : List Int) (w : World) (hr : RdB w w.heap.size ai n cs) (hn : n ≤ 1048576) :
    Calls Try.prog 29 #[.slice ai n capi] w (DrawnOpen w) := by
  have hb0 : Below w.heap.size w (w.alloc (.cells #[.int .i64 0, .int .i64 0, .int .i64 0, .int .i64 0, .int .i64 0] 25)) := (Below.refl _ _).alloc (Nat.le_refl _) _
  have hr0 := rdB_grow hr hb0
  have z0 : StateAt 25 (w.alloc (.cells #[.int .i64 0, .int .i64 0, .int .i64 0, .int .i64 0, .int .i64 0] 25)) w.heap.size 0 0 0 0 0 := StateAt.new w
  have e0 : (w.alloc (.cells #[.int .i64 0, .int .i64 0, .int .i64 0, .int .i64 0, .int .i64 0] 25)).heap.size = w.heap.size + 1 := by simp
  have HR := Lib.hid hr0; have Z0 := Lib.hid z0; have E0 := Lib.hid e0; have B0 := Lib.hid hb0
  clear hr0 hr z0 e0 hb0
  go_enter Try.func29, Try.ntmps29
  go_wp2_with fail
  generalize w.alloc (.cells #[.int .i64 0, .int .i64 0, .int .i64 0, .int .i64 0, .int .i64 0] 25) = w0 at HR Z0 E0 B0 ⊢
  refine (from_any _ _ _ cs _ HR.out hn).mono ?_
  rintro e w1 ⟨p, rfl, hlo, hs1, hb1⟩
  have H1 : Hid (HeldS 2 133 w0 w1 p []) := HeldS.start hb1 hlo hs1
  clear hlo hs1
  go_wp2_with fail
  refine (drawSealFrame_any _ _ _ cs _ (rdB_grow HR.out hb1) hn).mono ?_
  rintro e w2 ⟨a, q, t, m, r, s, k, ao1, cp1, d, id, t', m', r', s', k', rfl, o2, hdl, b2⟩
  have H2 := Lib.hid (H1.out.still b2)
  obtain ⟨_, _, ee, -, r2⟩ := o2.get
  cases ee
  have hp2 := H1.out.src.lt
  have hw12 := b2.size
  clear o2 b2 HR hb1 H1
  obtain ⟨r0, c, hF⟩ : ∃ r0 c, sealFrame ⟨a, q, t, m, r, s, k, d⟩ id t' m' r' s' k' = (r0, c) := ⟨_, _, rfl⟩
  have hrl : r0.length ≤ 45 := by have h := sealFrame_len ⟨a, q, t, m, r, s, k, d⟩ id t' m' r' s' k'; rw [hF] at h; exact h
  have HF := Lib.hid hF; clear hF
  go_upto_region 3 with fail
  have T := Two.start (a := a) (q := q) (t := t) (m := m) (r := r) (s := s) (k := k) (v := .slice ao1 d.length cp1) (t' := t') (m' := m') (r' := r') (s' := s') (k' := k') w2
  have H3 := Lib.hid (H2.out.still T.below)
  replace r2 := r2.below T.below
  generalize (w2.alloc (.cells #[.int .i64 a, .int .i64 q, .int .i64 t, .int .i64 m, .int .i64 r, .int .i64 s, .int .i64 k, .slice ao1 d.length cp1] 28)).alloc (.cells #[.int .i64 t', .int .i64 m', .int .i64 r', .int .i64 s', .int .i64 k'] 25) = w3 at T H3 r2 ⊢
  obtain ⟨⟨c0, c1, c2, c3, c4, c5, c6, c7⟩, d0, d1, d2, d3, d4⟩ := T.all
  go_wp2_with fail
  clear c0 c1 c2 c3 c4 c5 c6 c7 d0 d1 d2 d3 d4 H2
  refine (sSealFrame_any _ _ _ _ _ _ _ _ _ _ _ _ _ _ _ _ _ r2 (by omega)).mono ?_
  rintro e w4 mm
  rw [HF.out] at mm
  change Makes2 2 _ r0 c _ _ at mm
  obtain ⟨p4, c4, rfl, o4, -, b4⟩ := mm.get
  have H4 := H3.out.make o4 b4
  have hw0 := H3.out.below.size
  have D4 : Hid (DOp w w0 w4 p (w2.heap.size + 1) t' m' r' s' k' [(.slice p4 r0.length c4, r0)]) := Lib.hid ⟨H4, (T.call b4).st, Z0.out.below H4.below Z0.out.lt, B0.out.trans (H4.below.mono B0.out.size), E0.out, by omega, by have := T.st.lt; have := H3.out.lo; omega⟩
  have hKg : ∀ g, p4 = some ⟨g, 0, none⟩ → 0 < r0.length → w2.heap.size + 1 ≠ g := fun g e hl => by
    subst e
    have := (o4.block g rfl).1
    have := T.st.lt
    omega
  have O4 := Lib.hid o4
  clear mm o4 b4 T H3 H4 r2 hw0 Z0 B0 E0 hp2 hw12
  obtain ⟨K, hK⟩ : ∃ K, w2.heap.size + 1 = K := ⟨_, rfl⟩
  rw [hK] at D4 hKg ⊢
  clear hK
  by_cases hc : c = 0
  rotate_left
  · have t1 : (c != 0) = true := by simp [hc]
    clear hc
    go_upto_region 5 with fail
    have D8 := Lib.hid (D4.out.still (Below.drew (Below.refl _ _)))
    refine wp_region_held_drew (S := fun w' => (w'.cell? ⟨K, 0, none⟩ = some (.int .i64 t') ∧ w'.cell? ⟨K, 1, none⟩ = some (.int .i64 m') ∧ w'.cell? ⟨K, 2, none⟩ = some (.int .i64 r') ∧ w'.cell? ⟨K, 3, none⟩ = some (.int .i64 s') ∧ w'.cell? ⟨K, 4, none⟩ = some (.int .i64 k'))) (by kernel_rfl) (state_cells D8.out.ks) (fun hHeld => ?_)
    generalize w4.drew = w8 at D8 hHeld ⊢
    refine wpAnyH_take (i := 0) (v := ?_) rfl (by kernel_rfl) (by kernel_rfl) (by kernel_rfl) (fun _ _ _ h => h) (Or.inl ⟨by rfl, ?_⟩) (by assumption) ?_
    rotate_left
    · (intro w hSw; (try dsimp only at hSw); go_simp; (try with_reducible rfl))
    try simp only [List.getElem_toArray, List.getElem_cons_succ, List.getElem_cons_zero, Act.put, List.setIfInBounds_toArray, List.set_cons_zero, List.set_cons_succ]
    refine wpAnyH_take (i := 2) (v := ?_) rfl (by kernel_rfl) (by kernel_rfl) (by kernel_rfl) (fun _ _ _ h => h) (Or.inl ⟨by rfl, ?_⟩) (by assumption) ?_
    rotate_left
    · (intro w hSw; (try dsimp only at hSw); go_simp; (try with_reducible rfl))
    try simp only [List.getElem_toArray, List.getElem_cons_succ, List.getElem_cons_zero, Act.put, List.setIfInBounds_toArray, List.set_cons_zero, List.set_cons_succ]
    refine wpAnyH_take (i := 3) (v := ?_) rfl (by kernel_rfl) (by kernel_rfl) (by kernel_rfl) (fun _ _ _ h => h) (Or.inl ⟨by rfl, ?_⟩) (by assumption) ?_
    rotate_left
    · (intro w hSw; (try dsimp only at hSw); go_simp; (try with_reducible rfl))
    try simp only [List.getElem_toArray, List.getElem_cons_succ, List.getElem_cons_zero, Act.put, List.setIfInBounds_toArray, List.set_cons_zero, List.set_cons_succ]
    refine wpAnyH_ready (rs := [1]) (by kernel_rfl) (by simp) (AllReadyH.cons rfl (fun K' hK => ?_) AllReadyH.nil)
    go_simp
    refine (drawBytes_any _ _ _ D8.out.h.src (by omega) (by omega)).mono ?_
    rintro e wc ⟨v5, xs5, rfl, o5, hl5, hs5, g5⟩
    have D9 := Lib.hid (D8.out.draw o5 hs5 g5)
    obtain ⟨p5, c5, rfl, -, -⟩ := o5.get
    clear o5 hs5 g5
    go_wp2_with fail
    refine hK.out _ _ ?_ (fun hHeld => ?_)
    · exact state_cells D9.out.ks
    clear hK K'
    try simp only [List.getElem_toArray, List.getElem_cons_succ, List.getElem_cons_zero, Act.put, List.setIfInBounds_toArray, List.set_cons_zero, List.set_cons_succ]
    refine wpAnyH_take (i := 4) (v := ?_) rfl (by kernel_rfl) (by kernel_rfl) (by kernel_rfl) (fun _ _ _ h => h) (Or.inl ⟨by rfl, ?_⟩) (by assumption) ?_
    rotate_left
    · (intro w hSw; (try dsimp only at hSw); go_simp; (try with_reducible rfl))
    try simp only [List.getElem_toArray, List.getElem_cons_succ, List.getElem_cons_zero, Act.put, List.setIfInBounds_toArray, List.set_cons_zero, List.set_cons_succ]
    refine wpAnyH_take (i := 5) (v := ?_) rfl (by kernel_rfl) (by kernel_rfl) (by kernel_rfl) (fun _ _ _ h => h) (Or.inl ⟨by rfl, ?_⟩) (by assumption) ?_
    rotate_left
    · (intro w hSw; (try dsimp only at hSw); go_simp; (try with_reducible rfl))
    try simp only [List.getElem_toArray, List.getElem_cons_succ, List.getElem_cons_zero, Act.put, List.setIfInBounds_toArray, List.set_cons_zero, List.set_cons_succ]
    have sc0 := D9.out.z.c0
    have sf0 := D9.out.z.f 0
    have sc1 := D9.out.z.c1
    have sf1 := D9.out.z.f 1
    have sc2 := D9.out.z.c2
    have sf2 := D9.out.z.f 2
    have sc3 := D9.out.z.c3
    have sf3 := D9.out.z.f 3
    have sc4 := D9.out.z.c4
    have sf4 := D9.out.z.f 4
    refine wpAnyH_ready (rs := [6]) (by kernel_rfl) (by simp) (AllReadyH.cons rfl (fun K' hK => ?_) AllReadyH.nil)
    go_simp
    clear sc0 sf0 sc1 sf1 sc2 sf2 sc3 sf3 sc4 sf4
    obtain ⟨FZ, FK, FB, FO⟩ := D9.out.fin t' m' r' s' k'
    change K' _ (setFive wc w.heap.size t' m' r' s' k')
    generalize setFive wc w.heap.size t' m' r' s' k' = wz at FZ FK FB FO ⊢
    refine hK.out _ _ ?_ (fun hHeld => ?_)
    · exact state_cells FK
    clear hK K'
    try simp only [List.getElem_toArray, List.getElem_cons_succ, List.getElem_cons_zero, Act.put, List.setIfInBounds_toArray, List.set_cons_zero, List.set_cons_succ]
    refine wpAnyH_done (by kernel_rfl) ?_ _
    go_wp2_with fail
    have ow := FO _ (List.mem_of_getElem? (i := 0) rfl)
    simp only at ow
    obtain ⟨_, _, ee, ow, rw'⟩ := ow.get
    cases ee
    have hcc := Own.cap ow
    have e0 := FZ.c0
    have e1 := FZ.c1
    have e2 := FZ.c2
    have e3 := FZ.c3
    have e4 := FZ.c4
    exact bodyPost_ret (v := .tuple #[.slice p5 xs5.length c5, .int .i64 (id), .agg #[.int .i64 t', .int .i64 m', .int .i64 r', .int .i64 s', .int .i64 k']]) (by simp [results, Try.results29, go_sem, e0, e1, e2, e3, e4]) rfl ⟨_, _, xs5, _, _, _, _, _, _, rfl, rw', hl5, hcc.1, hcc.2, FB⟩
  subst hc
  obtain ⟨hf1, hf2, hf3⟩ := seal_facts HF.out
  obtain ⟨g, rfl⟩ := own_block1 O4.out (by omega)
  have hKg := hKg g rfl (by omega)
  have hid := inRange_iff.1 hf3
  have HC4 := Own.cap O4.out
  clear O4 HF hf3
  go_wp2_with fail
  refine (next_any _ _ _ D4.out.h.src (by omega)).mono ?_
  rintro e w5 ⟨y, rfl, -, -, -, hs5, g5⟩
  have D5 := Lib.hid (D4.out.next hs5 g5)
  clear hs5 g5 D4
  by_cases hy : y = 0
  · subst hy
    go_upto_region 5 with fail
    have D8 := Lib.hid (D5.out.still (Below.drew (Below.refl _ _)))
    refine wp_region_held_drew (S := fun w' => (w'.cell? ⟨K, 0, none⟩ = some (.int .i64 t') ∧ w'.cell? ⟨K, 1, none⟩ = some (.int .i64 m') ∧ w'.cell? ⟨K, 2, none⟩ = some (.int .i64 r') ∧ w'.cell? ⟨K, 3, none⟩ = some (.int .i64 s') ∧ w'.cell? ⟨K, 4, none⟩ = some (.int .i64 k'))) (by kernel_rfl) (state_cells D8.out.ks) (fun hHeld => ?_)
    generalize w5.drew = w8 at D8 hHeld ⊢
    refine wpAnyH_take (i := 0) (v := ?_) rfl (by kernel_rfl) (by kernel_rfl) (by kernel_rfl) (fun _ _ _ h => h) (Or.inl ⟨by rfl, ?_⟩) (by assumption) ?_
    rotate_left
    · (intro w hSw; (try dsimp only at hSw); go_simp; (try with_reducible rfl))
    try simp only [List.getElem_toArray, List.getElem_cons_succ, List.getElem_cons_zero, Act.put, List.setIfInBounds_toArray, List.set_cons_zero, List.set_cons_succ]
    refine wpAnyH_take (i := 2) (v := ?_) rfl (by kernel_rfl) (by kernel_rfl) (by kernel_rfl) (fun _ _ _ h => h) (Or.inl ⟨by rfl, ?_⟩) (by assumption) ?_
    rotate_left
    · (intro w hSw; (try dsimp only at hSw); go_simp; (try with_reducible rfl))
    try simp only [List.getElem_toArray, List.getElem_cons_succ, List.getElem_cons_zero, Act.put, List.setIfInBounds_toArray, List.set_cons_zero, List.set_cons_succ]
    refine wpAnyH_take (i := 3) (v := ?_) rfl (by kernel_rfl) (by kernel_rfl) (by kernel_rfl) (fun _ _ _ h => h) (Or.inl ⟨by rfl, ?_⟩) (by assumption) ?_
    rotate_left
    · (intro w hSw; (try dsimp only at hSw); go_simp; (try with_reducible rfl))
    try simp only [List.getElem_toArray, List.getElem_cons_succ, List.getElem_cons_zero, Act.put, List.setIfInBounds_toArray, List.set_cons_zero, List.set_cons_succ]
    refine wpAnyH_ready (rs := [1]) (by kernel_rfl) (by simp) (AllReadyH.cons rfl (fun K' hK => ?_) AllReadyH.nil)
    go_simp
    refine (drawBytes_any _ _ _ D8.out.h.src (by omega) (by omega)).mono ?_
    rintro e wc ⟨v5, xs5, rfl, o5, hl5, hs5, g5⟩
    have D9 := Lib.hid (D8.out.draw o5 hs5 g5)
    obtain ⟨p5, c5, rfl, -, -⟩ := o5.get
    clear o5 hs5 g5
    go_wp2_with fail
    refine hK.out _ _ ?_ (fun hHeld => ?_)
    · exact state_cells D9.out.ks
    clear hK K'
    try simp only [List.getElem_toArray, List.getElem_cons_succ, List.getElem_cons_zero, Act.put, List.setIfInBounds_toArray, List.set_cons_zero, List.set_cons_succ]
    refine wpAnyH_take (i := 4) (v := ?_) rfl (by kernel_rfl) (by kernel_rfl) (by kernel_rfl) (fun _ _ _ h => h) (Or.inl ⟨by rfl, ?_⟩) (by assumption) ?_
    rotate_left
    · (intro w hSw; (try dsimp only at hSw); go_simp; (try with_reducible rfl))
    try simp only [List.getElem_toArray, List.getElem_cons_succ, List.getElem_cons_zero, Act.put, List.setIfInBounds_toArray, List.set_cons_zero, List.set_cons_succ]
    refine wpAnyH_take (i := 5) (v := ?_) rfl (by kernel_rfl) (by kernel_rfl) (by kernel_rfl) (fun _ _ _ h => h) (Or.inl ⟨by rfl, ?_⟩) (by assumption) ?_
    rotate_left
    · (intro w hSw; (try dsimp only at hSw); go_simp; (try with_reducible rfl))
    try simp only [List.getElem_toArray, List.getElem_cons_succ, List.getElem_cons_zero, Act.put, List.setIfInBounds_toArray, List.set_cons_zero, List.set_cons_succ]
    have sc0 := D9.out.z.c0
    have sf0 := D9.out.z.f 0
    have sc1 := D9.out.z.c1
    have sf1 := D9.out.z.f 1
    have sc2 := D9.out.z.c2
    have sf2 := D9.out.z.f 2
    have sc3 := D9.out.z.c3
    have sf3 := D9.out.z.f 3
    have sc4 := D9.out.z.c4
    have sf4 := D9.out.z.f 4
    refine wpAnyH_ready (rs := [6]) (by kernel_rfl) (by simp) (AllReadyH.cons rfl (fun K' hK => ?_) AllReadyH.nil)
    go_simp
    clear sc0 sf0 sc1 sf1 sc2 sf2 sc3 sf3 sc4 sf4
    obtain ⟨FZ, FK, FB, FO⟩ := D9.out.fin t' m' r' s' k'
    change K' _ (setFive wc w.heap.size t' m' r' s' k')
    generalize setFive wc w.heap.size t' m' r' s' k' = wz at FZ FK FB FO ⊢
    refine hK.out _ _ ?_ (fun hHeld => ?_)
    · exact state_cells FK
    clear hK K'
    try simp only [List.getElem_toArray, List.getElem_cons_succ, List.getElem_cons_zero, Act.put, List.setIfInBounds_toArray, List.set_cons_zero, List.set_cons_succ]
    refine wpAnyH_done (by kernel_rfl) ?_ _
    go_wp2_with fail
    have ow := FO _ (List.mem_of_getElem? (i := 0) rfl)
    simp only at ow
    obtain ⟨_, _, ee, ow, rw'⟩ := ow.get
    cases ee
    have hcc := Own.cap ow
    have e0 := FZ.c0
    have e1 := FZ.c1
    have e2 := FZ.c2
    have e3 := FZ.c3
    have e4 := FZ.c4
    exact bodyPost_ret (v := .tuple #[.slice p5 xs5.length c5, .int .i64 (id), .agg #[.int .i64 t', .int .i64 m', .int .i64 r', .int .i64 s', .int .i64 k']]) (by simp [results, Try.results29, go_sem, e0, e1, e2, e3, e4]) rfl ⟨_, _, xs5, _, _, _, _, _, _, rfl, rw', hl5, hcc.1, hcc.2, FB⟩
  have t0 : (y == 0) = false := by simp [hy]
  clear hy
  go_wp2_with fail
  refine (next_any _ _ _ D5.out.h.src (by omega)).mono ?_
  rintro e w6 ⟨u, rfl, -, -, -, hs6, g6⟩
  have D6 := Lib.hid (D5.out.next hs6 g6)
  clear hs6 g6 D5 t0
  by_cases h0 : u = 0
  · subst h0
    go_wp2_with fail
    have hle1 : ((r0.length : Nat) : Int) ≤ 9223372036854775807 := by omega
    refine (next_any _ _ _ D6.out.h.src (by omega)).mono ?_
    rintro e w7 ⟨i, rfl, i0, i1, -, hs7, g7⟩
    have D7 := Lib.hid (D6.out.next hs7 g7)
    replace i1 := i1 (by omega)
    obtain ⟨i, rfl⟩ := Int.eq_ofNat_of_zero_le i0
    have hi : i < r0.length := by omega
    clear hs7 g7 D6 i0
    go_wp2_with fail
    refine (next_any _ _ _ D7.out.h.src (by omega)).mono ?_
    rintro e w8 ⟨z, rfl, -, -, -, hs8, g8⟩
    have D8 := Lib.hid (D7.out.next hs8 g8)
    clear hs8 g8 D7
    obtain ⟨hdst, hfz, -, -⟩ := own_store (D8.out.h.get 0 rfl) rfl (k := i) hi z
    obtain ⟨zz, hzz⟩ : ∃ zz, zz = r0.getD i 0 := ⟨_, rfl⟩
    rw [← hzz] at hdst
    clear hzz
    have D9 := Lib.hid (D8.out.store hKg rfl hi z)
    clear D8
    go_upto_region 19 with fail
    clear hdst hfz
    generalize w8.setCell ⟨g, i, none⟩ (.int .i64 z) = w9 at D9 ⊢
    go_upto_region 19 with fail
    have DA := Lib.hid (D9.out.still (Below.drew (Below.refl _ _)))
    refine wp_region_held_drew (S := fun w' => (w'.cell? ⟨K, 0, none⟩ = some (.int .i64 t') ∧ w'.cell? ⟨K, 1, none⟩ = some (.int .i64 m') ∧ w'.cell? ⟨K, 2, none⟩ = some (.int .i64 r') ∧ w'.cell? ⟨K, 3, none⟩ = some (.int .i64 s') ∧ w'.cell? ⟨K, 4, none⟩ = some (.int .i64 k'))) (by kernel_rfl) (state_cells DA.out.ks) (fun hHeld => ?_)
    generalize w9.drew = wA at DA hHeld ⊢
    refine wpAnyH_take (i := 0) (v := ?_) rfl (by kernel_rfl) (by kernel_rfl) (by kernel_rfl) (fun _ _ _ h => h) (Or.inl ⟨by rfl, ?_⟩) (by assumption) ?_
    rotate_left
    · (intro w hSw; (try dsimp only at hSw); go_simp; (try with_reducible rfl))
    try simp only [List.getElem_toArray, List.getElem_cons_succ, List.getElem_cons_zero, Act.put, List.setIfInBounds_toArray, List.set_cons_zero, List.set_cons_succ]
    refine wpAnyH_take (i := 1) (v := ?_) rfl (by kernel_rfl) (by kernel_rfl) (by kernel_rfl) (fun _ _ _ h => h) (Or.inl ⟨by rfl, ?_⟩) (by assumption) ?_
    rotate_left
    · (intro w hSw; (try dsimp only at hSw); go_simp; (try with_reducible rfl))
    try simp only [List.getElem_toArray, List.getElem_cons_succ, List.getElem_cons_zero, Act.put, List.setIfInBounds_toArray, List.set_cons_zero, List.set_cons_succ]
    refine wpAnyH_take (i := 2) (v := ?_) rfl (by kernel_rfl) (by kernel_rfl) (by kernel_rfl) (fun _ _ _ h => h) (Or.inl ⟨by rfl, ?_⟩) (by assumption) ?_
    rotate_left
    · (intro w hSw; (try dsimp only at hSw); go_simp; (try with_reducible rfl))
    try simp only [List.getElem_toArray, List.getElem_cons_succ, List.getElem_cons_zero, Act.put, List.setIfInBounds_toArray, List.set_cons_zero, List.set_cons_succ]
    refine wpAnyH_take (i := 3) (v := ?_) rfl (by kernel_rfl) (by kernel_rfl) (by kernel_rfl) (fun _ _ _ h => h) (Or.inl ⟨by rfl, ?_⟩) (by assumption) ?_
    rotate_left
    · (intro w hSw; (try dsimp only at hSw); go_simp; (try with_reducible rfl))
    try simp only [List.getElem_toArray, List.getElem_cons_succ, List.getElem_cons_zero, Act.put, List.setIfInBounds_toArray, List.set_cons_zero, List.set_cons_succ]
    refine wpAnyH_take (i := 4) (v := ?_) rfl (by kernel_rfl) (by kernel_rfl) (by kernel_rfl) (fun _ _ _ h => h) (Or.inl ⟨by rfl, ?_⟩) (by assumption) ?_
    rotate_left
    · (intro w hSw; (try dsimp only at hSw); go_simp; (try with_reducible rfl))
    try simp only [List.getElem_toArray, List.getElem_cons_succ, List.getElem_cons_zero, Act.put, List.setIfInBounds_toArray, List.set_cons_zero, List.set_cons_succ]
    have sc0 := DA.out.z.c0
    have sf0 := DA.out.z.f 0
    have sc1 := DA.out.z.c1
    have sf1 := DA.out.z.f 1
    have sc2 := DA.out.z.c2
    have sf2 := DA.out.z.f 2
    have sc3 := DA.out.z.c3
    have sf3 := DA.out.z.f 3
    have sc4 := DA.out.z.c4
    have sf4 := DA.out.z.f 4
    refine wpAnyH_ready (rs := [5]) (by kernel_rfl) (by simp) (AllReadyH.cons rfl (fun K' hK => ?_) AllReadyH.nil)
    go_simp
    clear sc0 sf0 sc1 sf1 sc2 sf2 sc3 sf3 sc4 sf4
    obtain ⟨FZ, FK, FB, FO⟩ := DA.out.fin t' m' r' s' k'
    change K' _ (setFive wA w.heap.size t' m' r' s' k')
    generalize setFive wA w.heap.size t' m' r' s' k' = wz at FZ FK FB FO ⊢
    refine hK.out _ _ ?_ (fun hHeld => ?_)
    · exact state_cells FK
    clear hK K'
    try simp only [List.getElem_toArray, List.getElem_cons_succ, List.getElem_cons_zero, Act.put, List.setIfInBounds_toArray, List.set_cons_zero, List.set_cons_succ]
    refine wpAnyH_done (by kernel_rfl) ?_ _
    go_wp2_with fail
    have ow := FO _ (List.mem_of_getElem? (i := 0) rfl)
    simp only at ow
    obtain ⟨_, _, ee, ow, rw'⟩ := ow.get
    rw [List.length_set] at ee rw'
    cases ee
    have hcc := Own.cap ow
    have e0 := FZ.c0
    have e1 := FZ.c1
    have e2 := FZ.c2
    have e3 := FZ.c3
    have e4 := FZ.c4
    exact bodyPost_ret (v := .tuple #[.slice (some ⟨g, 0, none⟩) r0.length c4, .int .i64 (id), .agg #[.int .i64 t', .int .i64 m', .int .i64 r', .int .i64 s', .int .i64 k']]) (by simp [results, Try.results29, go_sem, e0, e1, e2, e3, e4]) rfl ⟨_, _, (r0.set i z), _, _, _, _, _, _, by rw [List.length_set], by rw [List.length_set]; exact rw', by rw [List.length_set]; omega, hcc.1, hcc.2, FB⟩
  have t0 : (u == 0) = false := by simp [h0]
  by_cases h1 : u = 1
  · subst h1
    clear t0 h0
    go_wp2_with fail
    refine (l04DrawAny_any _ _ D6.out.h.src).mono ?_
    rintro e w7 ⟨v0, v1, v2, v3, v4, rfl, hs7, g7⟩
    have D7 := Lib.hid (D6.out.next hs7 g7)
    clear hs7 g7 D6
    have sc0 := D7.out.z.c0
    have sf0 := D7.out.z.f 0
    have sc1 := D7.out.z.c1
    have sf1 := D7.out.z.f 1
    have sc2 := D7.out.z.c2
    have sf2 := D7.out.z.f 2
    have sc3 := D7.out.z.c3
    have sf3 := D7.out.z.f 3
    have sc4 := D7.out.z.c4
    have sf4 := D7.out.z.f 4
    go_wp2_with fail
    clear sc0 sf0 sc1 sf1 sc2 sf2 sc3 sf3 sc4 sf4
    obtain ⟨FZ, FK, FB, FO⟩ := D7.out.fin v0 v1 v2 v3 v4
    change bodyPost _ _ _ _ _ (setFive w7 w.heap.size v0 v1 v2 v3 v4)
    generalize setFive w7 w.heap.size v0 v1 v2 v3 v4 = wz at FZ FK FB FO ⊢
    have ow := FO _ (List.mem_of_getElem? (i := 0) rfl)
    simp only at ow
    obtain ⟨_, _, ee, ow, rw'⟩ := ow.get
    cases ee
    have hcc := Own.cap ow
    have e0 := FZ.c0
    have e1 := FZ.c1
    have e2 := FZ.c2
    have e3 := FZ.c3
    have e4 := FZ.c4
    exact bodyPost_ret (v := .tuple #[.slice (some ⟨g, 0, none⟩) r0.length c4, .int .i64 (id), .agg #[.int .i64 v0, .int .i64 v1, .int .i64 v2, .int .i64 v3, .int .i64 v4]]) (by simp [results, Try.results29, go_sem, e0, e1, e2, e3, e4]) rfl ⟨_, _, r0, _, _, _, _, _, _, rfl, rw', by omega, hcc.1, hcc.2, FB⟩
  have t1 : (u == 1) = false := by simp [h1]
  by_cases h2 : u = 2
  · subst h2
    clear t0 t1 h0 h1
    have hwi : IntKind.i64.wrap (id + 1) = id + 1 := by rw [IntKind.wrap_i64]; omega
    go_upto_region 12 with fail
    have D8 := Lib.hid (D6.out.still (Below.drew (Below.refl _ _)))
    refine wp_region_held_drew (S := fun w' => (w'.cell? ⟨K, 0, none⟩ = some (.int .i64 t') ∧ w'.cell? ⟨K, 1, none⟩ = some (.int .i64 m') ∧ w'.cell? ⟨K, 2, none⟩ = some (.int .i64 r') ∧ w'.cell? ⟨K, 3, none⟩ = some (.int .i64 s') ∧ w'.cell? ⟨K, 4, none⟩ = some (.int .i64 k'))) (by kernel_rfl) (state_cells D8.out.ks) (fun hHeld => ?_)
    generalize w6.drew = w8 at D8 hHeld ⊢
    refine wpAnyH_take (i := 0) (v := ?_) rfl (by kernel_rfl) (by kernel_rfl) (by kernel_rfl) (fun _ _ _ h => h) (Or.inl ⟨by rfl, ?_⟩) (by assumption) ?_
    rotate_left
    · (intro w hSw; (try dsimp only at hSw); go_simp; (try with_reducible rfl))
    try simp only [List.getElem_toArray, List.getElem_cons_succ, List.getElem_cons_zero, Act.put, List.setIfInBounds_toArray, List.set_cons_zero, List.set_cons_succ]
    refine wpAnyH_take (i := 1) (v := ?_) rfl (by kernel_rfl) (by kernel_rfl) (by kernel_rfl) (fun _ _ _ h => h) (Or.inl ⟨by rfl, ?_⟩) (by assumption) ?_
    rotate_left
    · (intro w hSw; (try dsimp only at hSw); go_simp; (try with_reducible rfl))
    try simp only [List.getElem_toArray, List.getElem_cons_succ, List.getElem_cons_zero, Act.put, List.setIfInBounds_toArray, List.set_cons_zero, List.set_cons_succ]
    refine wpAnyH_take (i := 2) (v := ?_) rfl (by kernel_rfl) (by kernel_rfl) (by kernel_rfl) (fun _ _ _ h => h) (Or.inl ⟨by rfl, ?_⟩) (by assumption) ?_
    rotate_left
    · (intro w hSw; (try dsimp only at hSw); go_simp; (try with_reducible rfl))
    try simp only [List.getElem_toArray, List.getElem_cons_succ, List.getElem_cons_zero, Act.put, List.setIfInBounds_toArray, List.set_cons_zero, List.set_cons_succ]
    refine wpAnyH_take (i := 3) (v := ?_) rfl (by kernel_rfl) (by kernel_rfl) (by kernel_rfl) (fun _ _ _ h => h) (Or.inl ⟨by rfl, ?_⟩) (by assumption) ?_
    rotate_left
    · (intro w hSw; (try dsimp only at hSw); go_simp; (try with_reducible rfl))
    try simp only [List.getElem_toArray, List.getElem_cons_succ, List.getElem_cons_zero, Act.put, List.setIfInBounds_toArray, List.set_cons_zero, List.set_cons_succ]
    refine wpAnyH_take (i := 4) (v := ?_) rfl (by kernel_rfl) (by kernel_rfl) (by kernel_rfl) (fun _ _ _ h => h) (Or.inl ⟨by rfl, ?_⟩) (by assumption) ?_
    rotate_left
    · (intro w hSw; (try dsimp only at hSw); go_simp; (try with_reducible rfl))
    try simp only [List.getElem_toArray, List.getElem_cons_succ, List.getElem_cons_zero, Act.put, List.setIfInBounds_toArray, List.set_cons_zero, List.set_cons_succ]
    refine wpAnyH_take (i := 5) (v := ?_) rfl (by kernel_rfl) (by kernel_rfl) (by kernel_rfl) (fun _ _ _ h => h) (Or.inl ⟨by rfl, ?_⟩) (by assumption) ?_
    rotate_left
    · (intro w hSw; (try dsimp only at hSw); go_simp; (try with_reducible rfl))
    try simp only [List.getElem_toArray, List.getElem_cons_succ, List.getElem_cons_zero, Act.put, List.setIfInBounds_toArray, List.set_cons_zero, List.set_cons_succ]
    have sc0 := D8.out.z.c0
    have sf0 := D8.out.z.f 0
    have sc1 := D8.out.z.c1
    have sf1 := D8.out.z.f 1
    have sc2 := D8.out.z.c2
    have sf2 := D8.out.z.f 2
    have sc3 := D8.out.z.c3
    have sf3 := D8.out.z.f 3
    have sc4 := D8.out.z.c4
    have sf4 := D8.out.z.f 4
    refine wpAnyH_ready (rs := [6]) (by kernel_rfl) (by simp) (AllReadyH.cons rfl (fun K' hK => ?_) AllReadyH.nil)
    go_simp
    clear sc0 sf0 sc1 sf1 sc2 sf2 sc3 sf3 sc4 sf4
    obtain ⟨FZ, FK, FB, FO⟩ := D8.out.fin t' m' r' s' k'
    change K' _ (setFive w8 w.heap.size t' m' r' s' k')
    generalize setFive w8 w.heap.size t' m' r' s' k' = wz at FZ FK FB FO ⊢
    refine hK.out _ _ ?_ (fun hHeld => ?_)
    · exact state_cells FK
    clear hK K'
    try simp only [List.getElem_toArray, List.getElem_cons_succ, List.getElem_cons_zero, Act.put, List.setIfInBounds_toArray, List.set_cons_zero, List.set_cons_succ]
    refine wpAnyH_done (by kernel_rfl) ?_ _
    go_wp2_with fail
    have ow := FO _ (List.mem_of_getElem? (i := 0) rfl)
    simp only at ow
    obtain ⟨_, _, ee, ow, rw'⟩ := ow.get
    cases ee
    have hcc := Own.cap ow
    have e0 := FZ.c0
    have e1 := FZ.c1
    have e2 := FZ.c2
    have e3 := FZ.c3
    have e4 := FZ.c4
    exact bodyPost_ret (v := .tuple #[.slice (some ⟨g, 0, none⟩) r0.length c4, .int .i64 (id + 1), .agg #[.int .i64 t', .int .i64 m', .int .i64 r', .int .i64 s', .int .i64 k']]) (by simp [results, Try.results29, go_sem, e0, e1, e2, e3, e4]) rfl ⟨_, _, r0, _, _, _, _, _, _, rfl, rw', by omega, hcc.1, hcc.2, FB⟩
  have t2 : (u == 2) = false := by simp [h2]
  by_cases h3 : u = 3
  · subst h3
    clear t0 t1 t2 h0 h1 h2
    go_upto_region 14 with fail
    have D8 := Lib.hid (D6.out.still (Below.drew (Below.refl _ _)))
    refine wp_region_held_drew (S := fun w' => (w'.cell? ⟨K, 0, none⟩ = some (.int .i64 t') ∧ w'.cell? ⟨K, 1, none⟩ = some (.int .i64 m') ∧ w'.cell? ⟨K, 2, none⟩ = some (.int .i64 r') ∧ w'.cell? ⟨K, 3, none⟩ = some (.int .i64 s') ∧ w'.cell? ⟨K, 4, none⟩ = some (.int .i64 k'))) (by kernel_rfl) (state_cells D8.out.ks) (fun hHeld => ?_)
    generalize w6.drew = w8 at D8 hHeld ⊢
    refine wpAnyH_take (i := 0) (v := ?_) rfl (by kernel_rfl) (by kernel_rfl) (by kernel_rfl) (fun _ _ _ h => h) (Or.inl ⟨by rfl, ?_⟩) (by assumption) ?_
    rotate_left
    · (intro w hSw; (try dsimp only at hSw); go_simp; (try with_reducible rfl))
    try simp only [List.getElem_toArray, List.getElem_cons_succ, List.getElem_cons_zero, Act.put, List.setIfInBounds_toArray, List.set_cons_zero, List.set_cons_succ]
    refine wpAnyH_take (i := 1) (v := ?_) rfl (by kernel_rfl) (by kernel_rfl) (by kernel_rfl) (fun _ _ _ h => h) (Or.inl ⟨by rfl, ?_⟩) (by assumption) ?_
    rotate_left
    · (intro w hSw; (try dsimp only at hSw); go_simp; (try with_reducible rfl))
    try simp only [List.getElem_toArray, List.getElem_cons_succ, List.getElem_cons_zero, Act.put, List.setIfInBounds_toArray, List.set_cons_zero, List.set_cons_succ]
    refine wpAnyH_take (i := 4) (v := ?_) rfl (by kernel_rfl) (by kernel_rfl) (by kernel_rfl) (fun _ _ _ h => h) (Or.inl ⟨by rfl, ?_⟩) (by assumption) ?_
    rotate_left
    · (intro w hSw; (try dsimp only at hSw); go_simp; (try with_reducible rfl))
    try simp only [List.getElem_toArray, List.getElem_cons_succ, List.getElem_cons_zero, Act.put, List.setIfInBounds_toArray, List.set_cons_zero, List.set_cons_succ]
    refine wpAnyH_take (i := 5) (v := ?_) rfl (by kernel_rfl) (by kernel_rfl) (by kernel_rfl) (fun _ _ _ h => h) (Or.inl ⟨by rfl, ?_⟩) (by assumption) ?_
    rotate_left
    · (intro w hSw; (try dsimp only at hSw); go_simp; (try with_reducible rfl))
    try simp only [List.getElem_toArray, List.getElem_cons_succ, List.getElem_cons_zero, Act.put, List.setIfInBounds_toArray, List.set_cons_zero, List.set_cons_succ]
    refine wpAnyH_ready (rs := [2]) (by kernel_rfl) (by simp) (AllReadyH.cons rfl (fun K' hK => ?_) AllReadyH.nil)
    go_simp
    refine (next_any _ _ _ D8.out.h.src (by omega)).mono ?_
    rintro e wc ⟨z, rfl, z0, z1, -, hsc, gc⟩
    replace z1 := z1 (by omega)
    obtain ⟨z, rfl⟩ := Int.eq_ofNat_of_zero_le z0
    have D9 := Lib.hid (D8.out.next hsc gc)
    have hzc : (z : Int) ≤ (c4 : Int) := by omega
    clear hsc gc
    go_wp2_with fail
    refine hK.out _ _ ?_ (fun hHeld => ?_)
    · exact state_cells D9.out.ks
    clear hK K'
    try simp only [List.getElem_toArray, List.getElem_cons_succ, List.getElem_cons_zero, Act.put, List.setIfInBounds_toArray, List.set_cons_zero, List.set_cons_succ]
    refine wpAnyH_take (i := 3) (v := ?_) rfl (by kernel_rfl) (by kernel_rfl) (by kernel_rfl) (fun _ _ _ h => h) (Or.inl ⟨by rfl, ?_⟩) (by assumption) ?_
    rotate_left
    · (intro w hSw; (try dsimp only at hSw); go_simp; (try with_reducible rfl))
    try simp only [List.getElem_toArray, List.getElem_cons_succ, List.getElem_cons_zero, Act.put, List.setIfInBounds_toArray, List.set_cons_zero, List.set_cons_succ]
    refine wpAnyH_take (i := 6) (v := ?_) rfl (by kernel_rfl) (by kernel_rfl) (by kernel_rfl) (fun _ _ _ h => h) (Or.inl ⟨by rfl, ?_⟩) (by assumption) ?_
    rotate_left
    · (intro w hSw; (try dsimp only at hSw); go_simp; (try with_reducible rfl))
    try simp only [List.getElem_toArray, List.getElem_cons_succ, List.getElem_cons_zero, Act.put, List.setIfInBounds_toArray, List.set_cons_zero, List.set_cons_succ]
    refine wpAnyH_take (i := 7) (v := ?_) rfl (by kernel_rfl) (by kernel_rfl) (by kernel_rfl) (fun _ _ _ h => h) (Or.inl ⟨by rfl, ?_⟩) (by assumption) ?_
    rotate_left
    · (intro w hSw; (try dsimp only at hSw); go_simp; (try with_reducible rfl))
    try simp only [List.getElem_toArray, List.getElem_cons_succ, List.getElem_cons_zero, Act.put, List.setIfInBounds_toArray, List.set_cons_zero, List.set_cons_succ]
    have sc0 := D9.out.z.c0
    have sf0 := D9.out.z.f 0
    have sc1 := D9.out.z.c1
    have sf1 := D9.out.z.f 1
    have sc2 := D9.out.z.c2
    have sf2 := D9.out.z.f 2
    have sc3 := D9.out.z.c3
    have sf3 := D9.out.z.f 3
    have sc4 := D9.out.z.c4
    have sf4 := D9.out.z.f 4
    refine wpAnyH_ready (rs := [8]) (by kernel_rfl) (by simp) (AllReadyH.cons rfl (fun K' hK => ?_) AllReadyH.nil)
    go_simp
    clear sc0 sf0 sc1 sf1 sc2 sf2 sc3 sf3 sc4 sf4
    obtain ⟨FZ, FK, FB, FO⟩ := D9.out.fin t' m' r' s' k'
    change K' _ (setFive wc w.heap.size t' m' r' s' k')
    generalize setFive wc w.heap.size t' m' r' s' k' = wz at FZ FK FB FO ⊢
    refine hK.out _ _ ?_ (fun hHeld => ?_)
    · exact state_cells FK
    clear hK K'
    try simp only [List.getElem_toArray, List.getElem_cons_succ, List.getElem_cons_zero, Act.put, List.setIfInBounds_toArray, List.set_cons_zero, List.set_cons_succ]
    refine wpAnyH_done (by kernel_rfl) ?_ _
    go_wp2_with fail
    have ow := FO _ (List.mem_of_getElem? (i := 0) rfl)
    simp only at ow
    obtain ⟨_, _, ee, ow, rw'⟩ := ow.get
    cases ee
    have hrd := rd_first rw' (k := z) (by omega)
    have hlt : (r0.take z).length = z := by rw [List.length_take]; omega
    have e0 := FZ.c0
    have e1 := FZ.c1
    have e2 := FZ.c2
    have e3 := FZ.c3
    have e4 := FZ.c4
    exact bodyPost_ret (v := .tuple #[.slice (some ⟨g, 0, none⟩) z c4, .int .i64 (id), .agg #[.int .i64 t', .int .i64 m', .int .i64 r', .int .i64 s', .int .i64 k']]) (by simp [results, Try.results29, go_sem, e0, e1, e2, e3, e4]) rfl ⟨_, _, r0.take z, _, _, _, _, _, _, by rw [hlt], by rw [hlt]; exact hrd, by rw [hlt]; omega, by rw [hlt]; omega, HC4.2, FB⟩
  have t3 : (u == 3) = false := by simp [h3]
  by_cases h4 : u = 4
  · subst h4
    clear t0 t1 t2 t3 h0 h1 h2 h3
    go_wp2_with fail
    refine (next_any _ _ _ D6.out.h.src (by omega)).mono ?_
    rintro e w7 ⟨y1, rfl, y10, y11, -, hs7, g7⟩
    have D7 := Lib.hid (D6.out.next hs7 g7)
    replace y11 := y11 (by omega)
    clear hs7 g7 D6
    go_wp2_with fail
    refine (next_any _ _ _ D7.out.h.src (by omega)).mono ?_
    rintro e w7b ⟨y2, rfl, y20, y21, -, hs8, g8⟩
    have D7b := Lib.hid (D7.out.next hs8 g8)
    replace y21 := y21 (by omega)
    clear hs8 g8 D7
    go_upto_region 17 with fail
    have D7c := Lib.hid (D7b.out.make (Own.of_alloc_two y1 y2 (Nat.le_refl _)) ((Below.refl _ _).alloc (Nat.le_refl _) _))
    obtain ⟨G, hG⟩ : ∃ G, G = w7b.heap.size := ⟨_, rfl⟩
    have hKG : K ≠ G := by have := D7b.out.ks.lt; omega
    rw [← hG] at D7c ⊢
    clear hG
    generalize w7b.alloc (.cells #[.int .i64 y1, .int .i64 y2] 2) = w7c at D7c ⊢
    have D8 := Lib.hid (D7c.out.still (Below.drew (Below.refl _ _)))
    have hhd : IntKind.i64.wrap (y1.tdiv 64) = y1 / 64 := by rw [Int.tdiv_eq_ediv_of_nonneg y10, IntKind.wrap_i64]; omega
    have r8 := D8.out.h.rd 0 rfl rfl
    obtain ⟨_, _, ee, hat⟩ := r8.here (by omega)
    cases ee
    have hy0 := hat 0 (by omega)
    simp only [Nat.add_zero, List.getD_cons_zero] at hy0
    clear hat
    have hnb : ∀ x ∈ [y1, y2], 0 ≤ x ∧ x ≤ 255 := fun x hx => by simp only [List.mem_cons, List.mem_nil_iff, or_false] at hx; rcases hx with rfl | rfl <;> omega
    have hx2 := sealNum_in (y1 / 64) id t' m' r' s' k' [y1, y2]
    have hnum := fun (W : World) (hR : Rd W (some ⟨G, 0, none⟩) 2 [y1, y2]) => l07Number_any (y1 / 64) id t' m' r' s' k' (some ⟨G, 0, none⟩) 2 [y1, y2] W hid hR (by simp)
    generalize sealNum (y1 / 64) id t' m' r' s' k' [y1, y2] = x at hx2 hnum
    have HNUM := Lib.hid hnum; clear hnum hnb
    refine wp_region_held_drew (S := fun w' => w'.cell? ⟨G, 0, none⟩ = some (.int .i64 y1) ∧ (w'.cell? ⟨K, 0, none⟩ = some (.int .i64 t') ∧ w'.cell? ⟨K, 1, none⟩ = some (.int .i64 m') ∧ w'.cell? ⟨K, 2, none⟩ = some (.int .i64 r') ∧ w'.cell? ⟨K, 3, none⟩ = some (.int .i64 s') ∧ w'.cell? ⟨K, 4, none⟩ = some (.int .i64 k'))) (by kernel_rfl) (⟨hy0, state_cells D8.out.ks⟩) (fun hHeld => ?_)
    generalize w7c.drew = w8 at D8 r8 hy0 hHeld ⊢
    refine wpAnyH_take (i := 0) (v := ?_) rfl (by kernel_rfl) (by kernel_rfl) (by kernel_rfl) (fun _ _ _ h => h) (Or.inl ⟨by rfl, ?_⟩) (by assumption) ?_
    rotate_left
    · (intro w hSw; (try dsimp only at hSw); go_simp; (try with_reducible rfl))
    try simp only [List.getElem_toArray, List.getElem_cons_succ, List.getElem_cons_zero, Act.put, List.setIfInBounds_toArray, List.set_cons_zero, List.set_cons_succ]
    refine wpAnyH_take (i := 1) (v := ?_) rfl (by kernel_rfl) (by kernel_rfl) (by kernel_rfl) (fun _ _ _ h => h) (Or.inl ⟨by rfl, ?_⟩) (by assumption) ?_
    rotate_left
    · (intro w hSw; (try dsimp only at hSw); go_simp; (try with_reducible rfl))
    try simp only [List.getElem_toArray, List.getElem_cons_succ, List.getElem_cons_zero, Act.put, List.setIfInBounds_toArray, List.set_cons_zero, List.set_cons_succ]
    refine wpAnyH_take (i := 2) (v := ?_) rfl (by kernel_rfl) (by kernel_rfl) (by kernel_rfl) (fun _ _ _ h => h) (Or.inl ⟨by rfl, ?_⟩) (by assumption) ?_
    rotate_left
    · (intro w hSw; (try dsimp only at hSw); go_simp; (try with_reducible rfl))
    try simp only [List.getElem_toArray, List.getElem_cons_succ, List.getElem_cons_zero, Act.put, List.setIfInBounds_toArray, List.set_cons_zero, List.set_cons_succ]
    refine wpAnyH_take (i := 3) (v := ?_) rfl (by kernel_rfl) (by kernel_rfl) (by kernel_rfl) (fun _ _ _ h => h) (Or.inl ⟨by rfl, ?_⟩) (by assumption) ?_
    rotate_left
    · (intro w hSw; (try dsimp only at hSw); go_simp; (try with_reducible rfl))
    try simp only [List.getElem_toArray, List.getElem_cons_succ, List.getElem_cons_zero, Act.put, List.setIfInBounds_toArray, List.set_cons_zero, List.set_cons_succ]
    refine wpAnyH_take (i := 4) (v := ?_) rfl (by kernel_rfl) (by kernel_rfl) (by kernel_rfl) (fun _ _ _ h => h) (Or.inl ⟨by rfl, ?_⟩) (by assumption) ?_
    rotate_left
    · (intro w hSw; (try dsimp only at hSw); go_simp; (try with_reducible rfl))
    try simp only [List.getElem_toArray, List.getElem_cons_succ, List.getElem_cons_zero, Act.put, List.setIfInBounds_toArray, List.set_cons_zero, List.set_cons_succ]
    refine wpAnyH_take (i := 5) (v := ?_) rfl (by kernel_rfl) (by kernel_rfl) (by kernel_rfl) (fun _ _ _ h => h) (Or.inl ⟨by rfl, ?_⟩) (by assumption) ?_
    rotate_left
    · (intro w hSw; (try dsimp only at hSw); go_simp; (try with_reducible rfl))
    try simp only [List.getElem_toArray, List.getElem_cons_succ, List.getElem_cons_zero, Act.put, List.setIfInBounds_toArray, List.set_cons_zero, List.set_cons_succ]
    refine wpAnyH_take (i := 6) (v := ?_) rfl (by kernel_rfl) (by kernel_rfl) (by kernel_rfl) (fun _ _ _ h => h) (Or.inl ⟨by rfl, ?_⟩) (by assumption) ?_
    rotate_left
    · (intro w hSw; (try dsimp only at hSw); go_simp; (try with_reducible rfl))
    try simp only [List.getElem_toArray, List.getElem_cons_succ, List.getElem_cons_zero, Act.put, List.setIfInBounds_toArray, List.set_cons_zero, List.set_cons_succ]
    refine wpAnyH_ready (rs := [7]) (by kernel_rfl) (by simp) (AllReadyH.cons rfl (fun K' hK => ?_) AllReadyH.nil)
    go_simp
    refine (HNUM.out _ r8).mono ?_
    rintro e w9 ⟨rfl, b9⟩
    have hy9 := (b9.cell (p := ⟨G, 0, none⟩) (World.block_lt_of_cell? _ _ hy0)).trans hy0
    have D9 := Lib.hid (D8.out.still b9)
    clear b9 r8
    go_wp2_with fail
    refine hK.out _ _ ?_ (fun hHeld => ?_)
    · exact ⟨hy9, state_cells D9.out.ks⟩
    clear hK K'
    try simp only [List.getElem_toArray, List.getElem_cons_succ, List.getElem_cons_zero, Act.put, List.setIfInBounds_toArray, List.set_cons_zero, List.set_cons_succ]
    refine wpAnyH_take (i := 8) (v := ?_) rfl (by kernel_rfl) (by kernel_rfl) (by kernel_rfl) (fun _ _ _ h => h) (Or.inl ⟨by rfl, ?_⟩) (by assumption) ?_
    rotate_left
    · (intro w hSw; (try dsimp only at hSw); go_simp; (try with_reducible rfl))
    try simp only [List.getElem_toArray, List.getElem_cons_succ, List.getElem_cons_zero, Act.put, List.setIfInBounds_toArray, List.set_cons_zero, List.set_cons_succ]
    refine wpAnyH_done (by kernel_rfl) ?_ _
    clear D8 hy0 hy9 hhd D7c
    have q1 : IntKind.i64.wrap (x.tdiv 65536) = x / 65536 := by rw [Int.tdiv_eq_ediv_of_nonneg hx2.1, IntKind.wrap_i64]; omega
    have q2 : IntKind.i64.wrap (x.tdiv 256) = x / 256 := by rw [Int.tdiv_eq_ediv_of_nonneg hx2.1, IntKind.wrap_i64]; omega
    have q3 : (x / 256).tmod 256 = x / 256 % 256 := by rw [Int.tmod_eq_emod_of_nonneg (by omega)]
    have q4 : x.tmod 256 = x % 256 := by rw [Int.tmod_eq_emod_of_nonneg hx2.1]
    generalize x / 65536 = z0 at q1
    generalize x / 256 = z1 at q2 q3
    generalize z1 % 256 = z2 at q3
    generalize x % 256 = z3 at q4
    go_upto_region 18 with fail
    have DA := Lib.hid (D9.out.still (Below.drew (Below.refl _ _)))
    refine wp_region_held_drew (S := fun w' => (w'.cell? ⟨K, 0, none⟩ = some (.int .i64 t') ∧ w'.cell? ⟨K, 1, none⟩ = some (.int .i64 m') ∧ w'.cell? ⟨K, 2, none⟩ = some (.int .i64 r') ∧ w'.cell? ⟨K, 3, none⟩ = some (.int .i64 s') ∧ w'.cell? ⟨K, 4, none⟩ = some (.int .i64 k'))) (by kernel_rfl) (state_cells DA.out.ks) (fun hHeld => ?_)
    generalize w9.drew = wa at DA hHeld ⊢
    refine wpAnyH_take (i := 0) (v := ?_) rfl (by kernel_rfl) (by kernel_rfl) (by kernel_rfl) (fun _ _ _ h => h) (Or.inl ⟨by rfl, ?_⟩) (by assumption) ?_
    rotate_left
    · (intro w hSw; (try dsimp only at hSw); go_simp; (try with_reducible rfl))
    try simp only [List.getElem_toArray, List.getElem_cons_succ, List.getElem_cons_zero, Act.put, List.setIfInBounds_toArray, List.set_cons_zero, List.set_cons_succ]
    refine wpAnyH_take (i := 1) (v := ?_) rfl (by kernel_rfl) (by kernel_rfl) (by kernel_rfl) (fun _ _ _ h => h) (Or.inl ⟨by rfl, ?_⟩) (by assumption) ?_
    rotate_left
    · (intro w hSw; (try dsimp only at hSw); go_simp; (try with_reducible rfl))
    try simp only [List.getElem_toArray, List.getElem_cons_succ, List.getElem_cons_zero, Act.put, List.setIfInBounds_toArray, List.set_cons_zero, List.set_cons_succ]
    refine wpAnyH_take (i := 2) (v := ?_) rfl (by kernel_rfl) (by kernel_rfl) (by kernel_rfl) (fun _ _ _ h => h) (Or.inl ⟨by rfl, ?_⟩) (by assumption) ?_
    rotate_left
    · (intro w hSw; (try dsimp only at hSw); go_simp; (try with_reducible rfl))
    try simp only [List.getElem_toArray, List.getElem_cons_succ, List.getElem_cons_zero, Act.put, List.setIfInBounds_toArray, List.set_cons_zero, List.set_cons_succ]
    refine wpAnyH_take (i := 3) (v := ?_) rfl (by kernel_rfl) (by kernel_rfl) (by kernel_rfl) (fun _ _ _ h => h) (Or.inl ⟨by rfl, ?_⟩) (by assumption) ?_
    rotate_left
    · (intro w hSw; (try dsimp only at hSw); go_simp; (try with_reducible rfl))
    try simp only [List.getElem_toArray, List.getElem_cons_succ, List.getElem_cons_zero, Act.put, List.setIfInBounds_toArray, List.set_cons_zero, List.set_cons_succ]
    refine wpAnyH_take (i := 4) (v := ?_) rfl (by kernel_rfl) (by kernel_rfl) (by kernel_rfl) (fun _ _ _ h => h) (Or.inl ⟨by rfl, ?_⟩) (by assumption) ?_
    rotate_left
    · (intro w hSw; (try dsimp only at hSw); go_simp; (try with_reducible rfl))
    try simp only [List.getElem_toArray, List.getElem_cons_succ, List.getElem_cons_zero, Act.put, List.setIfInBounds_toArray, List.set_cons_zero, List.set_cons_succ]
    refine wpAnyH_take (i := 5) (v := ?_) rfl (by kernel_rfl) (by kernel_rfl) (by kernel_rfl) (fun _ _ _ h => h) (Or.inl ⟨by rfl, ?_⟩) (by assumption) ?_
    rotate_left
    · (intro w hSw; (try dsimp only at hSw); go_simp; (try with_reducible rfl))
    try simp only [List.getElem_toArray, List.getElem_cons_succ, List.getElem_cons_zero, Act.put, List.setIfInBounds_toArray, List.set_cons_zero, List.set_cons_succ]
    refine wpAnyH_take (i := 6) (v := ?_) rfl (by kernel_rfl) (by kernel_rfl) (by kernel_rfl) (fun _ _ _ h => h) (Or.inl ⟨by rfl, ?_⟩) (by assumption) ?_
    rotate_left
    · (intro w hSw; (try dsimp only at hSw); go_simp; (try with_reducible rfl))
    try simp only [List.getElem_toArray, List.getElem_cons_succ, List.getElem_cons_zero, Act.put, List.setIfInBounds_toArray, List.set_cons_zero, List.set_cons_succ]
    refine wpAnyH_take (i := 7) (v := ?_) rfl (by kernel_rfl) (by kernel_rfl) (by kernel_rfl) (fun _ _ _ h => h) (Or.inl ⟨by rfl, ?_⟩) (by assumption) ?_
    rotate_left
    · (intro w hSw; (try dsimp only at hSw); go_simp; (try with_reducible rfl))
    try simp only [List.getElem_toArray, List.getElem_cons_succ, List.getElem_cons_zero, Act.put, List.setIfInBounds_toArray, List.set_cons_zero, List.set_cons_succ]
    refine wpAnyH_take (i := 10) (v := ?_) rfl (by kernel_rfl) (by kernel_rfl) (by kernel_rfl) (fun _ _ _ h => h) (Or.inl ⟨by rfl, ?_⟩) (by assumption) ?_
    rotate_left
    · (intro w hSw; (try dsimp only at hSw); go_simp; (try with_reducible rfl))
    try simp only [List.getElem_toArray, List.getElem_cons_succ, List.getElem_cons_zero, Act.put, List.setIfInBounds_toArray, List.set_cons_zero, List.set_cons_succ]
    refine wpAnyH_take (i := 11) (v := ?_) rfl (by kernel_rfl) (by kernel_rfl) (by kernel_rfl) (fun _ _ _ h => h) (Or.inl ⟨by rfl, ?_⟩) (by assumption) ?_
    rotate_left
    · (intro w hSw; (try dsimp only at hSw); go_simp; (try with_reducible rfl))
    try simp only [List.getElem_toArray, List.getElem_cons_succ, List.getElem_cons_zero, Act.put, List.setIfInBounds_toArray, List.set_cons_zero, List.set_cons_succ]
    refine wpAnyH_ready (rs := [8]) (by kernel_rfl) (by simp) (AllReadyH.cons rfl (fun K' hK => ?_) AllReadyH.nil)
    go_simp
    have rd3 : Rd (wa.alloc (.cells #[.int .i64 z0, .int .i64 z2, .int .i64 z3] 2)) (some ⟨wa.heap.size, 0, none⟩) 3 [z0, z2, z3] := rd_three z0 z2 z3 wa
    have DB := Lib.hid (DA.out.still ((Below.refl wa.heap.size wa).alloc (Nat.le_refl _) (.cells #[.int .i64 z0, .int .i64 z2, .int .i64 z3] 2)))
    obtain ⟨V, hV⟩ : ∃ V, V = wa.heap.size := ⟨_, rfl⟩
    rw [← hV] at rd3 ⊢
    clear hV
    generalize wa.alloc (.cells #[.int .i64 z0, .int .i64 z2, .int .i64 z3] 2) = wb at DB rd3 ⊢
    refine hK.out _ _ ?_ (fun hHeld => ?_)
    · exact state_cells DB.out.ks
    clear hK K'
    try simp only [List.getElem_toArray, List.getElem_cons_succ, List.getElem_cons_zero, Act.put, List.setIfInBounds_toArray, List.set_cons_zero, List.set_cons_succ]
    refine wpAnyH_ready (rs := [9]) (by kernel_rfl) (by simp) (AllReadyH.cons rfl (fun K' hK => ?_) AllReadyH.nil)
    have OB := DB.out.h.own _ (List.mem_of_getElem? (i := 0) rfl)
    refine step_list _ rfl (.tmp 86) (.tmp 94) rfl (p + 1) Try.underlying26 info64 _ [y1, y2] rfl OB _ _ _ [z0, z2, z3] rfl rd3 (by omega) (by simp) (by have := DB.out.h.src.lt; omega) ?_
    intro v' wc oc gc _
    replace gc : wb.grownBy wc (some G) := gc
    obtain ⟨pc, cc, rfl, oc, -⟩ := oc.get
    have DC : Hid (DOp w w0 wc p K t' m' r' s' k' [(.slice pc ([y1, y2] ++ [z0, z2, z3]).length cc, [y1, y2] ++ [z0, z2, z3])]) := Lib.hid (by
        have h1 := DB.out.h.lo
        have h2 := DB.out.e
        have h3 := DB.out.hk
        have hG1 := (OB.block G rfl).1
        have hKG : K ≠ G := hKG
        exact ⟨⟨only_below DB.out.h.below gc DB.out.h.below.size (fun k hk => by cases hk; omega), DB.out.h.lo, DB.out.h.src.grown gc (fun k hk => by cases hk; omega), (fun q hq => by rw [List.mem_singleton] at hq; subst hq; exact oc), List.pairwise_singleton _ _⟩, DB.out.ks.grown gc (by simp; omega), DB.out.z.grown gc (by simp; omega), only_below DB.out.b gc DB.out.b.size (fun k hk => by cases hk; omega), DB.out.e, DB.out.hkp, DB.out.hk⟩)
    clear oc gc OB rd3 DB
    refine hK.out _ _ ?_ (fun hHeld => ?_)
    · exact state_cells DC.out.ks
    clear hK K'
    try simp only [List.getElem_toArray, List.getElem_cons_succ, List.getElem_cons_zero, Act.put, List.setIfInBounds_toArray, List.set_cons_zero, List.set_cons_succ]
    refine wpAnyH_take (i := 12) (v := ?_) rfl (by kernel_rfl) (by kernel_rfl) (by kernel_rfl) (fun _ _ _ h => h) (Or.inl ⟨by rfl, ?_⟩) (by assumption) ?_
    rotate_left
    · (intro w hSw; (try dsimp only at hSw); go_simp; (try with_reducible rfl))
    try simp only [List.getElem_toArray, List.getElem_cons_succ, List.getElem_cons_zero, Act.put, List.setIfInBounds_toArray, List.set_cons_zero, List.set_cons_succ]
    refine wpAnyH_take (i := 13) (v := ?_) rfl (by kernel_rfl) (by kernel_rfl) (by kernel_rfl) (fun _ _ _ h => h) (Or.inl ⟨by rfl, ?_⟩) (by assumption) ?_
    rotate_left
    · (intro w hSw; (try dsimp only at hSw); go_simp; (try with_reducible rfl))
    try simp only [List.getElem_toArray, List.getElem_cons_succ, List.getElem_cons_zero, Act.put, List.setIfInBounds_toArray, List.set_cons_zero, List.set_cons_succ]
    have sc0 := DC.out.z.c0
    have sf0 := DC.out.z.f 0
    have sc1 := DC.out.z.c1
    have sf1 := DC.out.z.f 1
    have sc2 := DC.out.z.c2
    have sf2 := DC.out.z.f 2
    have sc3 := DC.out.z.c3
    have sf3 := DC.out.z.f 3
    have sc4 := DC.out.z.c4
    have sf4 := DC.out.z.f 4
    refine wpAnyH_ready (rs := [14]) (by kernel_rfl) (by simp) (AllReadyH.cons rfl (fun K' hK => ?_) AllReadyH.nil)
    go_simp
    clear sc0 sf0 sc1 sf1 sc2 sf2 sc3 sf3 sc4 sf4
    obtain ⟨FZ, FK, FB, FO⟩ := DC.out.fin t' m' r' s' k'
    change K' _ (setFive wc w.heap.size t' m' r' s' k')
    generalize setFive wc w.heap.size t' m' r' s' k' = wz at FZ FK FB FO ⊢
    refine hK.out _ _ ?_ (fun hHeld => ?_)
    · exact state_cells FK
    clear hK K'
    try simp only [List.getElem_toArray, List.getElem_cons_succ, List.getElem_cons_zero, Act.put, List.setIfInBounds_toArray, List.set_cons_zero, List.set_cons_succ]
    refine wpAnyH_done (by kernel_rfl) ?_ _
    go_wp2_with fail
    have ow := FO _ (List.mem_of_getElem? (i := 0) rfl)
    simp only at ow
    obtain ⟨_, _, ee, ow, rw'⟩ := ow.get
    cases ee
    have hcc := Own.cap ow
    have e0 := FZ.c0
    have e1 := FZ.c1
    have e2 := FZ.c2
    have e3 := FZ.c3
    have e4 := FZ.c4
    exact bodyPost_ret (v := .tuple #[.slice pc ([y1, y2] ++ [z0, z2, z3]).length cc, .int .i64 (id), .agg #[.int .i64 t', .int .i64 m', .int .i64 r', .int .i64 s', .int .i64 k']]) (by simp [results, Try.results29, go_sem, e0, e1, e2, e3, e4]) rfl ⟨_, _, [y1, y2] ++ [z0, z2, z3], _, _, _, _, _, _, rfl, rw', by simp, hcc.1, hcc.2, FB⟩
  have t4 : (u == 4) = false := by simp [h4]
  clear h0 h1 h2 h3 h4
  go_upto_region 19 with fail
  have D8 := Lib.hid (D6.out.still (Below.drew (Below.refl _ _)))
  refine wp_region_held_drew (S := fun w' => (w'.cell? ⟨K, 0, none⟩ = some (.int .i64 t') ∧ w'.cell? ⟨K, 1, none⟩ = some (.int .i64 m') ∧ w'.cell? ⟨K, 2, none⟩ = some (.int .i64 r') ∧ w'.cell? ⟨K, 3, none⟩ = some (.int .i64 s') ∧ w'.cell? ⟨K, 4, none⟩ = some (.int .i64 k'))) (by kernel_rfl) (state_cells D8.out.ks) (fun hHeld => ?_)
  generalize w6.drew = w8 at D8 hHeld ⊢
  refine wpAnyH_take (i := 0) (v := ?_) rfl (by kernel_rfl) (by kernel_rfl) (by kernel_rfl) (fun _ _ _ h => h) (Or.inl ⟨by rfl, ?_⟩) (by assumption) ?_
  rotate_left
  · (intro w hSw; (try dsimp only at hSw); go_simp; (try with_reducible rfl))
  try simp only [List.getElem_toArray, List.getElem_cons_succ, List.getElem_cons_zero, Act.put, List.setIfInBounds_toArray, List.set_cons_zero, List.set_cons_succ]
  refine wpAnyH_take (i := 1) (v := ?_) rfl (by kernel_rfl) (by kernel_rfl) (by kernel_rfl) (fun _ _ _ h => h) (Or.inl ⟨by rfl, ?_⟩) (by assumption) ?_
  rotate_left
  · (intro w hSw; (try dsimp only at hSw); go_simp; (try with_reducible rfl))
  try simp only [List.getElem_toArray, List.getElem_cons_succ, List.getElem_cons_zero, Act.put, List.setIfInBounds_toArray, List.set_cons_zero, List.set_cons_succ]
  refine wpAnyH_take (i := 2) (v := ?_) rfl (by kernel_rfl) (by kernel_rfl) (by kernel_rfl) (fun _ _ _ h => h) (Or.inl ⟨by rfl, ?_⟩) (by assumption) ?_
  rotate_left
  · (intro w hSw; (try dsimp only at hSw); go_simp; (try with_reducible rfl))
  try simp only [List.getElem_toArray, List.getElem_cons_succ, List.getElem_cons_zero, Act.put, List.setIfInBounds_toArray, List.set_cons_zero, List.set_cons_succ]
  refine wpAnyH_take (i := 3) (v := ?_) rfl (by kernel_rfl) (by kernel_rfl) (by kernel_rfl) (fun _ _ _ h => h) (Or.inl ⟨by rfl, ?_⟩) (by assumption) ?_
  rotate_left
  · (intro w hSw; (try dsimp only at hSw); go_simp; (try with_reducible rfl))
  try simp only [List.getElem_toArray, List.getElem_cons_succ, List.getElem_cons_zero, Act.put, List.setIfInBounds_toArray, List.set_cons_zero, List.set_cons_succ]
  refine wpAnyH_take (i := 4) (v := ?_) rfl (by kernel_rfl) (by kernel_rfl) (by kernel_rfl) (fun _ _ _ h => h) (Or.inl ⟨by rfl, ?_⟩) (by assumption) ?_
  rotate_left
  · (intro w hSw; (try dsimp only at hSw); go_simp; (try with_reducible rfl))
  try simp only [List.getElem_toArray, List.getElem_cons_succ, List.getElem_cons_zero, Act.put, List.setIfInBounds_toArray, List.set_cons_zero, List.set_cons_succ]
  have sc0 := D8.out.z.c0
  have sf0 := D8.out.z.f 0
  have sc1 := D8.out.z.c1
  have sf1 := D8.out.z.f 1
  have sc2 := D8.out.z.c2
  have sf2 := D8.out.z.f 2
  have sc3 := D8.out.z.c3
  have sf3 := D8.out.z.f 3
  have sc4 := D8.out.z.c4
  have sf4 := D8.out.z.f 4
  refine wpAnyH_ready (rs := [5]) (by kernel_rfl) (by simp) (AllReadyH.cons rfl (fun K' hK => ?_) AllReadyH.nil)
  go_simp
  clear sc0 sf0 sc1 sf1 sc2 sf2 sc3 sf3 sc4 sf4
  obtain ⟨FZ, FK, FB, FO⟩ := D8.out.fin t' m' r' s' k'
  change K' _ (setFive w8 w.heap.size t' m' r' s' k')
  generalize setFive w8 w.heap.size t' m' r' s' k' = wz at FZ FK FB FO ⊢
  refine hK.out _ _ ?_ (fun hHeld => ?_)
  · exact state_cells FK
  clear hK K'
  try simp only [List.getElem_toArray, List.getElem_cons_succ, List.getElem_cons_zero, Act.put, List.setIfInBounds_toArray, List.set_cons_zero, List.set_cons_succ]
  refine wpAnyH_done (by kernel_rfl) ?_ _
  go_wp2_with fail
  have ow := FO _ (List.mem_of_getElem? (i := 0) rfl)
  simp only at ow
  obtain ⟨_, _, ee, ow, rw'⟩ := ow.get
  skip
  cases ee
  have hcc := Own.cap ow
  have e0 := FZ.c0
  have e1 := FZ.c1
  have e2 := FZ.c2
  have e3 := FZ.c3
  have e4 := FZ.c4
  exact bodyPost_ret (v := .tuple #[.slice (some ⟨g, 0, none⟩) r0.length c4, .int .i64 (id), .agg #[.int .i64 t', .int .i64 m', .int .i64 r', .int .i64 s', .int .i64 k']]) (by simp [results, Try.results29, go_sem, e0, e1, e2, e3, e4]) rfl ⟨_, _, r0, _, _, _, _, _, _, rfl, rw', by omega, hcc.1, hcc.2, FB⟩
end Go.Proofs.Ytbdfnkhmnglpbaa
