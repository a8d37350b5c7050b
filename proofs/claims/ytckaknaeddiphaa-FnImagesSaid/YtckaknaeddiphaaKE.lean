/-
  Chapter 9: DataOfImage of the program.
-/
import Derived.Test.YtckaknaeddiphaaKD
import Derived.Test.YtckaknaeddiphaaK7
namespace Go.Proofs.Ytckaknaeddiphaa
open Go.RowKit Go.Shelf
attribute [local go_sem] Oper.semAt_some

theorem own_put {E base D : Nat} {W : World} {v : Value} {xs : List Int} {ds : Option (List Deferred)} (ho : Own E W base v xs) (hK : W.heap[D]? = some (.deferred ds)) : Own E (W.putObj D (.deferred none)) base v xs :=
  ho.only (grownBy_putObj' W D (.deferred none)) (by
    cases hk : v.ownBlock with
    | none => exact .inl rfl
    | some j => exact .inr (fun e => by obtain ⟨_, cur, h2⟩ := own_cells ho hk; cases e; rw [hK] at h2; cases h2))
/-- While a part is appended: which operations are done, and what their slots hold. -/
structure PD (W2 w' : World) (f : Nat → Bool) (V S L T U v0 v1 v2 v3 v4 v5 : Value) : Prop where
  n6 : f 6 = false
  n7 : f 7 = false
  wd : w' = W2
  f0 : f 0 = true → v0 = V
  f1 : f 1 = true → v1 = S
  f2 : f 2 = true → v2 = S
  f3 : f 3 = true → v3 = L
  f4 : f 4 = true → v4 = T
  f5 : f 5 = true → v5 = U
  c3 : f 3 = true → f 2 = true
  c4 : f 4 = true → f 3 = true
  c5 : f 5 = true → f 1 = true ∧ f 4 = true
section
set_option linter.unusedSimpArgs false
variable {W2 w' : World} {f : Nat → Bool} {V S L T U v0 v1 v2 v3 v4 v5 : Value}
theorem PD.s0 (h : PD W2 w' f V S L T U v0 v1 v2 v3 v4 v5) : PD W2 w' (upd f 0) V S L T U V v1 v2 v3 v4 v5 where
  n6 := by simpa [upd] using h.n6
  n7 := by simpa [upd] using h.n7
  wd := h.wd
  f0 := fun _ => rfl
  f1 := by simpa [upd] using h.f1
  f2 := by simpa [upd] using h.f2
  f3 := by simpa [upd] using h.f3
  f4 := by simpa [upd] using h.f4
  f5 := by simpa [upd] using h.f5
  c3 := fun hx => by have := h.c3 (by simpa [upd] using hx); simp [upd, this]
  c4 := fun hx => by have := h.c4 (by simpa [upd] using hx); simp [upd, this]
  c5 := fun hx => by have := h.c5 (by simpa [upd] using hx); simp [upd, this]
theorem PD.s1 (h : PD W2 w' f V S L T U v0 v1 v2 v3 v4 v5) : PD W2 w' (upd f 1) V S L T U v0 S v2 v3 v4 v5 where
  n6 := by simpa [upd] using h.n6
  n7 := by simpa [upd] using h.n7
  wd := h.wd
  f0 := by simpa [upd] using h.f0
  f1 := fun _ => rfl
  f2 := by simpa [upd] using h.f2
  f3 := by simpa [upd] using h.f3
  f4 := by simpa [upd] using h.f4
  f5 := by simpa [upd] using h.f5
  c3 := fun hx => by have := h.c3 (by simpa [upd] using hx); simp [upd, this]
  c4 := fun hx => by have := h.c4 (by simpa [upd] using hx); simp [upd, this]
  c5 := fun hx => by have := h.c5 (by simpa [upd] using hx); simp [upd, this]
theorem PD.s2 (h : PD W2 w' f V S L T U v0 v1 v2 v3 v4 v5) : PD W2 w' (upd f 2) V S L T U v0 v1 S v3 v4 v5 where
  n6 := by simpa [upd] using h.n6
  n7 := by simpa [upd] using h.n7
  wd := h.wd
  f0 := by simpa [upd] using h.f0
  f1 := by simpa [upd] using h.f1
  f2 := fun _ => rfl
  f3 := by simpa [upd] using h.f3
  f4 := by simpa [upd] using h.f4
  f5 := by simpa [upd] using h.f5
  c3 := fun hx => by have := h.c3 (by simpa [upd] using hx); simp [upd, this]
  c4 := fun hx => by have := h.c4 (by simpa [upd] using hx); simp [upd, this]
  c5 := fun hx => by have := h.c5 (by simpa [upd] using hx); simp [upd, this]
theorem PD.s3 (h : PD W2 w' f V S L T U v0 v1 v2 v3 v4 v5) (d2 : f 2 = true) : PD W2 w' (upd f 3) V S L T U v0 v1 v2 L v4 v5 where
  n6 := by simpa [upd] using h.n6
  n7 := by simpa [upd] using h.n7
  wd := h.wd
  f0 := by simpa [upd] using h.f0
  f1 := by simpa [upd] using h.f1
  f2 := by simpa [upd] using h.f2
  f3 := fun _ => rfl
  f4 := by simpa [upd] using h.f4
  f5 := by simpa [upd] using h.f5
  c3 := fun _ => by simp [upd, d2]
  c4 := fun hx => by have := h.c4 (by simpa [upd] using hx); simp [upd, this]
  c5 := fun hx => by have := h.c5 (by simpa [upd] using hx); simp [upd, this]
theorem PD.s4 (h : PD W2 w' f V S L T U v0 v1 v2 v3 v4 v5) (d3 : f 3 = true) : PD W2 w' (upd f 4) V S L T U v0 v1 v2 v3 T v5 where
  n6 := by simpa [upd] using h.n6
  n7 := by simpa [upd] using h.n7
  wd := h.wd
  f0 := by simpa [upd] using h.f0
  f1 := by simpa [upd] using h.f1
  f2 := by simpa [upd] using h.f2
  f3 := by simpa [upd] using h.f3
  f4 := fun _ => rfl
  f5 := by simpa [upd] using h.f5
  c3 := fun hx => by have := h.c3 (by simpa [upd] using hx); simp [upd, this]
  c4 := fun _ => by simp [upd, d3]
  c5 := fun hx => by have := h.c5 (by simpa [upd] using hx); simp [upd, this]
theorem PD.s5 (h : PD W2 w' f V S L T U v0 v1 v2 v3 v4 v5) (d1 : f 1 = true) (d4 : f 4 = true) : PD W2 w' (upd f 5) V S L T U v0 v1 v2 v3 v4 U where
  n6 := by simpa [upd] using h.n6
  n7 := by simpa [upd] using h.n7
  wd := h.wd
  f0 := by simpa [upd] using h.f0
  f1 := by simpa [upd] using h.f1
  f2 := by simpa [upd] using h.f2
  f3 := by simpa [upd] using h.f3
  f4 := by simpa [upd] using h.f4
  f5 := fun _ => rfl
  c3 := fun hx => by have := h.c3 (by simpa [upd] using hx); simp [upd, this]
  c4 := fun hx => by have := h.c4 (by simpa [upd] using hx); simp [upd, this]
  c5 := fun _ => ⟨by simp [upd, d1], by simp [upd, d4]⟩
theorem PD.all (h : PD W2 w' f V S L T U v0 v1 v2 v3 v4 v5) (d0 : f 0 = true) (d5 : f 5 = true) (j : Nat) (hj : j < 7) : (if 6 = j then true else f j) = true := by
  have h5 := h.c5 d5
  have h4 := h.c4 h5.2
  have h3 := h.c3 h4
  have hc : j = 0 ∨ j = 1 ∨ j = 2 ∨ j = 3 ∨ j = 4 ∨ j = 5 ∨ j = 6 := by omega
  rcases hc with rfl | rfl | rfl | rfl | rfl | rfl | rfl <;> simp [d0, d5, h5, h4, h3]
end
set_option linter.unusedSimpArgs false in
set_option maxRecDepth 100000 in
set_option maxHeartbeats 8000000 in
theorem data_in (ao : Option Addr) (n cap : Nat) (xs : List Int) (w : World) (hr : Rd w ao n xs) (hb : isBytes xs = true) (hcap : n ≤ cap) (hcap2 : cap ≤ 9223372036854775807) (hd : damaged9 xs = []) :
    Calls Try.prog 14 #[.slice ao n cap] w (Makes2 2 w (dataCode xs).1 (dataCode xs).2) := by
  have hlen := hr.len
  have hn : n ≤ 1024 := by have := (isBytes_iff.1 hb).1; omega
  have hdmg := damaged_in ao n cap xs w hr hb hcap hcap2
  rw [← hlen, (dmg_nil xs).2 hd, hlen] at hdmg
  obtain ⟨hN1, hN9, hNk⟩ := slices_ok hn
  have hn5 : 5 ≤ n := by
    have h1 := good_slices hd (k := 0) (by rw [hlen]; exact hN1)
    rw [slice_len] at h1
    omega
  have hgood : ∀ k, k < slicesOf n → 5 ≤ (sliceOf xs k).length := fun k hk => good_slices hd (by rw [hlen]; exact hk)
  have hNN : (xs.length + 32) / 33 = slicesOf n := by rw [hlen]; unfold slicesOf; omega
  have hd9 : data9 xs = dataTo xs (slicesOf n) := by rw [← hNN]; rfl
  have hcode : dataCode xs = if (dataTo xs (slicesOf n)).length ≤ 868 ∧ image9 (dataTo xs (slicesOf n)) = xs then (dataTo xs (slicesOf n), 0) else ([], 6) := by unfold dataCode; rw [if_neg (by simp [hd]), hd9]
  clear hNN hd9 hd
  have hN32 : slicesOf n ≤ 32 := by unfold slicesOf; omega
  generalize slicesOf n = N at *
  have HDB := Lib.hid (data_bytes (xs := xs) hb (k := N) (by have := dataTo_len xs N; omega))
  have HCO := Lib.hid hcode; clear hcode
  refine (callsIn_wide (n := 9)).1 ?_
  refine callsIn_of_wp_marks Try.func14 rfl trivial ?_ rfl
  simp only [Try.ntmps14, List.size_toArray, List.length_cons, List.length_nil, Nat.reduceAdd, Nat.reduceSub, Array.replicate_succ, Array.replicate_zero, List.push_toArray, List.append_toArray, List.nil_append, List.cons_append]
  gi_wp2
  refine ⟨trivial, (callsIn_wide.2 hdmg).mono ?_⟩
  rintro e w0 m0
  obtain ⟨pd, cd, rfl, -, -, bd⟩ := m0.get
  clear m0 hdmg
  gi_wp2_with (refine ⟨trivial, ?_⟩; gi_at_call 40; refine (callsIn_wide.2 (partsOf_any ao n cap 33 _)).mono ?_; rintro e w' ⟨rfl, rfl⟩)
  have bi := ((Boxed.new w0 24 (.slice none 0 0)).alloc (.cells #[.slice ao n cap] 24)).alloc (.cells #[.int .i64 33] 3)
  have c1 := (Boxed.new (w0.alloc (.cells #[.slice none 0 0] 24)) 24 (.slice ao n cap)).alloc (.cells #[.int .i64 33] 3)
  have c2 := Boxed.new ((w0.alloc (.cells #[.slice none 0 0] 24)).alloc (.cells #[.slice ao n cap] 24)) 3 (.int .i64 33)
  have hbw := below_two bd ((((Below.refl _ w0).alloc (Nat.le_refl _) (.cells #[.slice none 0 0] 24)).alloc (by simp) (.cells #[.slice ao n cap] 24)).alloc (by simp; omega) (.cells #[.int .i64 33] 3))
  simp only [World.size_alloc] at c1 c2
  have hs1 : (((w0.alloc (.cells #[.slice none 0 0] 24)).alloc (.cells #[.slice ao n cap] 24)).alloc (.cells #[.int .i64 33] 3)).heap.size = w0.heap.size + 3 := by simp
  have hws := bd.size
  generalize ((w0.alloc (.cells #[.slice none 0 0] 24)).alloc (.cells #[.slice ao n cap] 24)).alloc (.cells #[.int .i64 33] 3) = w1 at bi c1 c2 hbw hs1 ⊢
  refine wpIn_range (n := 9) (gf := 56) (lb := #[.pointer (some ⟨w0.heap.size + 1, 0, none⟩), .pointer (some ⟨w0.heap.size + 1 + 1, 0, none⟩)]) rfl (enters_of Try.func56 (by kernel_rfl) rfl)
    (parts_seq (w0.heap.size + 1) (w0.heap.size + 1 + 1) 33 N n cap ao xs w w1 hr hcap hcap2 (by omega) (by omega) (by omega) hN1 (by omega) hNk (keepM 2 w1.heap.size w0.heap.size) (.inl ⟨by omega, by omega⟩) c1 c2) (Below.refl _ _)
    (fun k o hk hc => .inr ⟨hk, notE_of_not hc⟩) (fun _ => rfl)
    (fun k W' => HoldsL 2 24 w1.heap.size w0.heap.size W' (dataTo xs k) ∧ (Below w.heap.size w W' ∧ w1.heap.size ≤ W'.heap.size))
    (fun _ _ _ => False)
    (OwnFrom.and (own_holds _ _ _ _ _ _) (OwnFrom.and (ownFrom_below (Nat.le_refl _) (by omega)) (own_size _ _)))
    (fun _ _ _ _ _ h _ _ => h)
    ⟨⟨_, bi, Own.nil_⟩, hbw, Nat.le_refl _⟩
    (fun k x a' _ => a' = { tmps := #[.slice ao n cap, undef, .slice none 0 0, .int .i64 0, .slice pd 0 cd, .int .i64 0, .pointer (some ⟨w0.heap.size, 0, none⟩), undef, .slice x.2.1 x.2.2.1 x.2.2.2, undef, .tuple #[.slice pd 0 cd, .int .i64 0], .slice ao n cap, .tuple #[.slice pd 0 cd, .int .i64 0], .slice pd 0 cd, .int .i64 0, .bool false, .int .i64 0, .bool false, undef, .bool false, .slice pd 0 cd, .int .i64 0, .bool false, .slice ao n cap, .func (.func 56) #[] #[.pointer (some ⟨w0.heap.size + 1, 0, none⟩), .pointer (some ⟨w0.heap.size + 1 + 1, 0, none⟩)], .int .i64 (x.1 : Int), .slice x.2.1 x.2.2.1 x.2.2.2, undef, undef, undef, undef, undef, undef, undef, undef, undef, undef, undef, undef, undef, undef, undef, undef, undef, undef, undef, undef, undef], defers := [] })
    (fun _ _ _ _ _ _ _ hs _ _ => hs)
    ?assign ?body ?done ?stop
  case assign =>
    rintro l2 k x W1 K hk hx hI hK
    dsimp only [partEnc]
    gi_wp2
    exact hK _ _ (Keeps.refl _) hI rfl
  case body =>
    rintro l k ⟨k', a, m5, c⟩ a' W1 hl hk ⟨rfl, hrp, hmc, hc9⟩ ⟨⟨v, hv, ho⟩, hB, hs1W⟩ rfl
    dsimp only at hrp hmc hc9 hk ⊢
    have hmx : Try.prog.follows .mixedOrders = true := by kernel_rfl
    have hrd := (Low.of_below hB).rd hrp
    change Rd W1 a m5 (sliceOf xs k') at hrd
    have h5 := hgood k' hk
    have hml : (sliceOf xs k').length = m5 := hrd.len
    have h33 := slice_len xs k'
    have hsu := dataTo_succ xs k'
    have hac := dataTo_len xs k'
    obtain ⟨acc, hacc⟩ : ∃ acc, dataTo xs k' = acc := ⟨_, rfl⟩
    rw [hacc] at hac hsu ho
    obtain ⟨bs, hbs⟩ : ∃ bs, sliceOf xs k' = bs := ⟨_, rfl⟩
    rw [hbs] at hsu h5 hml h33 hrd
    obtain ⟨m, rfl⟩ : ∃ m, m5 = m + 5 := ⟨m5 - 5, by omega⟩
    obtain ⟨e, rfl⟩ : ∃ e, c = e + 5 := ⟨c - 5, by omega⟩
    have hpi : partIn bs = (bs.drop 2).take m := by unfold partIn; rw [hml, Nat.add_sub_cancel]
    have hrp2 := hrd.slice (a := 2) (k := m) (by omega)
    rw [← hpi] at hrp2
    have f1 : (2 : Int) ≤ (m : Int) + 2 := by omega
    have f2 : (m : Int) + 2 ≤ (e : Int) + 5 := by omega
    have f3 : (m : Int) + 5 - 3 = (m : Int) + 2 := by omega
    have hm9 : m ≤ 28 := by omega
    have HAC := Lib.hid (show acc.length + m ≤ 4294967296 by omega)
    have hpl : (partIn bs).length = m := hrp2.len
    obtain ⟨ps, hps⟩ : ∃ ps, partIn bs = ps := ⟨_, rfl⟩
    rw [hps] at hrp2 hsu hpl
    obtain ⟨po, co, rfl, ho, -⟩ := ho.get
    have HV := Lib.hid (show Boxed W1.drew w0.heap.size 24 (.slice po acc.length co) from hv)
    have HO := Lib.hid (ho.below (Below.drew (Below.refl W1.heap.size W1)))
    have HRP := Lib.hid (hrp2.below (Below.drew (Below.refl W1.heap.size W1)))
    have HB2 := Lib.hid hB.drew
    have HS2 := Lib.hid (show w1.heap.size ≤ W1.drew.heap.size from hs1W)
    have HK2 := Lib.hid (Keeps.drew (M := keepM 2 w1.heap.size w0.heap.size) W1)
    have HSZ := Lib.hid (show w0.heap.size < w1.heap.size by omega)
    have HWS := Lib.hid (show w.heap.size < w1.heap.size by omega)
    have HWB := Lib.hid hws
    have HSU := Lib.hid hsu
    clear hrd h5 hml h33 hsu hac hacc hbs hpi hrp2 hpl hps hv ho hB hs1W hrp hmc hc9 hs1 hws hlen hn5 bi c1 c2 hbw
    gi_wp2
    refine wpIn_region_any hmx ?_
    change wpAnyIn _ _ _ _ _ _ _ _ _ (World.drew _)
    generalize W1.drew = W2 at HV HO HRP HB2 HS2 HK2 ⊢
    obtain ⟨IV, hIV⟩ : ∃ IV : Array Bool → Act → World → Prop, IV = fun listed a' w' => (listed.size = 8 ∧ ∃ v0 v1 v2 v3 v4 v5 v6 : Value, a' = ⟨#[.slice ao n cap, undef, .slice none 0 0, .int .i64 0, .slice pd 0 cd, .int .i64 0, .pointer (some ⟨w0.heap.size, 0, none⟩), undef, .slice a (m + 5) (e + 5), undef, .tuple #[.slice pd 0 cd, .int .i64 0], .slice ao n cap, .tuple #[.slice pd 0 cd, .int .i64 0], .slice pd 0 cd, .int .i64 0, .bool false, .int .i64 0, .bool false, undef, .bool false, .slice pd 0 cd, .int .i64 0, .bool false, .slice ao n cap, .func (.func 56) #[] #[.pointer (some ⟨w0.heap.size + 1, 0, none⟩), .pointer (some ⟨w0.heap.size + 1 + 1, 0, none⟩)], .int .i64 (k' : Int), .slice a (m + 5) (e + 5), v0, v1, v2, v3, v4, v5, v6, undef, undef, undef, undef, undef, undef, undef, undef, undef, undef, undef, undef, undef, undef], []⟩ ∧ (PD W2 w' (fl listed) (.slice po acc.length co) (.slice a (m + 5) (e + 5)) (.int .i64 ((m : Int) + 5)) (.int .i64 ((m : Int) + 2)) (.slice (Option.map (fun x => x.add 2) a) m (e + 3)) v0 v1 v2 v3 v4 v5 ∨ ((∀ i, i < 7 → fl listed i = true) ∧ fl listed 7 = false ∧ ∃ p4 c4, v6 = .slice p4 (acc.length + ps.length) c4 ∧ Boxed w' w0.heap.size 24 (.slice po acc.length co) ∧ HoldsL 2 24 w1.heap.size w0.heap.size (w'.setCell ⟨w0.heap.size, 0, none⟩ (.slice p4 (acc.length + ps.length) c4)) (acc ++ ps) ∧ Keeps (keepM 2 w1.heap.size w0.heap.size) W2 (w'.setCell ⟨w0.heap.size, 0, none⟩ (.slice p4 (acc.length + ps.length) c4)) ∧ Below w.heap.size w w') ∨ (HoldsL 2 24 w1.heap.size w0.heap.size w' (acc ++ ps) ∧ Keeps (keepM 2 w1.heap.size w0.heap.size) W2 w' ∧ Below w.heap.size w w' ∧ (∀ i, i < 8 → fl listed i = true)))) := ⟨_, rfl⟩
    have HIV := Lib.hid hIV
    clear hIV
    refine wpAnyIn_inv IV ?_ ?_ _ _ _ _ (by decide) ?_
    · intro listed a' w' h i hi K hK
      rw [HIV.out] at h
      obtain ⟨hsz9, v0, v1, v2, v3, v4, v5, v6, rfl, h⟩ := h
      obtain ⟨hi1, ho, ha⟩ := ready_mem hi
      clear hi
      have hi2 : i < 8 := hi1
      clear hi1
      rcases h with h | ⟨hall, -, p4, c4, rfl, hv4, hL4, hk4, hb4⟩ | ⟨-, -, -, hall⟩
      · have hc : i = 0 ∨ i = 1 ∨ i = 2 ∨ i = 3 ∨ i = 4 ∨ i = 5 ∨ i = 6 ∨ i = 7 := by omega
        rcases hc with rfl | rfl | rfl | rfl | rfl | rfl | rfl | rfl
        · clear ha
          refine wpOpIn_of rfl rfl ?_
          obtain rfl := h.wd
          have hcv := HV.out.cell
          gi_wp2
          rw [HIV.out]
          exact ⟨by rw [Array.size_setIfInBounds]; exact hsz9, _, _, _, _, _, _, _, rfl, .inl (by rw [fl_upd ho]; exact h.s0)⟩
        · clear ha
          refine wpOpIn_of rfl rfl ?_
          obtain rfl := h.wd
          gi_wp2
          rw [HIV.out]
          exact ⟨by rw [Array.size_setIfInBounds]; exact hsz9, _, _, _, _, _, _, _, rfl, .inl (by rw [fl_upd ho]; exact h.s1)⟩
        · clear ha
          refine wpOpIn_of rfl rfl ?_
          obtain rfl := h.wd
          gi_wp2
          rw [HIV.out]
          exact ⟨by rw [Array.size_setIfInBounds]; exact hsz9, _, _, _, _, _, _, _, rfl, .inl (by rw [fl_upd ho]; exact h.s2)⟩
        · have d2 : fl listed 2 = true := (by simp [Region.binds] at ha; first | exact ha | exact ha.1 | exact ha.2 | exact ha.1.1 | exact ha.1.2 | exact ha.2.1 | exact ha.2.2)
          clear ha
          refine wpOpIn_of rfl rfl ?_
          obtain rfl := h.wd
          obtain rfl := h.f2 d2
          gi_wp2
          rw [HIV.out]
          exact ⟨by rw [Array.size_setIfInBounds]; exact hsz9, _, _, _, _, _, _, _, rfl, .inl (by rw [fl_upd ho]; exact h.s3 d2)⟩
        · have d3 : fl listed 3 = true := (by simp [Region.binds] at ha; first | exact ha | exact ha.1 | exact ha.2 | exact ha.1.1 | exact ha.1.2 | exact ha.2.1 | exact ha.2.2)
          clear ha
          refine wpOpIn_of rfl rfl ?_
          obtain rfl := h.wd
          obtain rfl := h.f3 d3
          gi_wp2
          rw [HIV.out]
          exact ⟨by rw [Array.size_setIfInBounds]; exact hsz9, _, _, _, _, _, _, _, rfl, .inl (by rw [fl_upd ho]; exact h.s4 d3)⟩
        · have d1 : fl listed 1 = true := (by simp [Region.binds] at ha; first | exact ha | exact ha.1 | exact ha.2 | exact ha.1.1 | exact ha.1.2 | exact ha.2.1 | exact ha.2.2)
          have d4 : fl listed 4 = true := (by simp [Region.binds] at ha; first | exact ha | exact ha.1 | exact ha.2 | exact ha.1.1 | exact ha.1.2 | exact ha.2.1 | exact ha.2.2)
          clear ha
          refine wpOpIn_of rfl rfl ?_
          obtain rfl := h.wd
          obtain rfl := h.f1 d1
          obtain rfl := h.f4 d4
          gi_wp2
          rw [HIV.out]
          exact ⟨by rw [Array.size_setIfInBounds]; exact hsz9, _, _, _, _, _, _, _, rfl, .inl (by rw [fl_upd ho]; exact h.s5 d1 d4)⟩
        · have d0 : fl listed 0 = true := (by simp [Region.binds] at ha; first | exact ha | exact ha.1 | exact ha.2 | exact ha.1.1 | exact ha.1.2 | exact ha.2.1 | exact ha.2.2)
          have d5 : fl listed 5 = true := (by simp [Region.binds] at ha; first | exact ha | exact ha.1 | exact ha.2 | exact ha.1.1 | exact ha.1.2 | exact ha.2.1 | exact ha.2.2)
          clear ha
          refine wpOpIn_of rfl rfl ?_
          obtain rfl := h.wd
          obtain rfl := h.f0 d0
          obtain rfl := h.f5 d5
          refine op_append_list (.tmp 27) (.tmp 32) rfl w1.heap.size Try.underlying24 info64 _ acc rfl HO.out _ _ _ ps rfl HRP.out (by have := HAC.out; omega) HS2.out ?_
          intro v' w4 o4 g4
          obtain ⟨p4, c4, rfl, o4, -⟩ := o4.get
          obtain ⟨hv4, hL4⟩ := HoldsL.push (by decide) HSZ.out HV.out HO.out g4 o4
          have hk4 := keep_push HO.out g4 HSZ.out (.slice p4 (acc ++ ps).length c4)
          have hb4 := only_below HB2.out g4 (Nat.le_trans (Nat.le_of_lt HWS.out) HS2.out) (fun j hj => by have := (HO.out.block j hj).1; have := HWS.out; omega)
          rw [List.length_append] at hL4 hk4 ⊢
          refine hK _ _ ?_
          rw [HIV.out]
          exact ⟨by rw [Array.size_setIfInBounds]; exact hsz9, _, _, _, _, _, _, _, rfl, .inr (.inl ⟨fun j hj => by rw [fl_upd ho]; exact h.all d0 d5 j hj, by rw [fl_upd ho]; simp [upd, h.n7], p4, c4, rfl, hv4, hL4, hk4, hb4⟩)⟩
        · have d6 : fl listed 6 = true := (by simp [Region.binds] at ha; first | exact ha | exact ha.1)
          rw [h.n6] at d6
          cases d6
      · have hi7 : i = 7 := by
          by_cases h7 : i < 7
          · have := hall i h7; rw [fl_no ho] at this; cases this
          · omega
        subst hi7
        clear ha
        refine wpOpIn_of rfl rfl ?_
        have rc := hv4.cell; have rf := hv4.frozen
        gi_wp2
        rw [HIV.out]
        exact ⟨by rw [Array.size_setIfInBounds]; exact hsz9, _, _, _, _, _, _, _, rfl, .inr (.inr ⟨hL4, hk4, hb4.setCell (p := ⟨w0.heap.size, 0, none⟩) HWB.out _, fun j hj => by rw [fl_upd ho]; unfold upd; split; rfl; exact hall j (by omega)⟩)⟩
      · have := hall i hi2
        rw [fl_no ho] at this
        cases this
    · intro listed a' w' h hnil
      rw [HIV.out] at h
      obtain ⟨hsz9, v0, v1, v2, v3, v4, v5, v6, rfl, h⟩ := h
      have hall := ready_nil (by kernel_rfl) hsz9 hnil
      rcases h with h | ⟨-, h7, -⟩ | ⟨hL4, hk4, hb4, -⟩
      · have h6 := hall 6 (by decide); rw [h.n6] at h6; cases h6
      · have h8 := hall 7 (by decide); rw [h7] at h8; cases h8
      · gi_wp2
        exact ⟨HK2.out.trans hk4, by rw [HSU.out]; exact hL4, hb4, Nat.le_trans HS2.out hk4.size⟩
    · rw [HIV.out]
      exact ⟨by simp, _, _, _, _, _, _, _, rfl, .inl ⟨fl_none _ _, fl_none _ _, rfl, (fun h => by rw [fl_none] at h; cases h), (fun h => by rw [fl_none] at h; cases h), (fun h => by rw [fl_none] at h; cases h), (fun h => by rw [fl_none] at h; cases h), (fun h => by rw [fl_none] at h; cases h), (fun h => by rw [fl_none] at h; cases h), (fun h => by rw [fl_none] at h; cases h), (fun h => by rw [fl_none] at h; cases h), (fun h => by rw [fl_none] at h; cases h)⟩⟩
  case done =>
    rintro D W' hD ⟨⟨v, hv, ho⟩, hB, hs1W⟩ hK
    have hc := hv.cell
    obtain ⟨d, hdd⟩ : ∃ d, dataTo xs N = d := ⟨_, rfl⟩
    have hco := HCO.out; have hdb := HDB.out
    rw [hdd] at ho hco hdb
    obtain ⟨po, co, rfl, ho, hrd⟩ := ho.get
    have hcd := ho.cap
    have himg := imageOf_any po co d W' hrd (by have := (isBytes_iff.1 hdb).1; omega) hcd.1 hcd.2
    have hdl : d.length ≤ 1024 := (isBytes_iff.1 hdb).1
    have HO := Lib.hid ho; have HV := Lib.hid hv; have HB := Lib.hid hB; have HK := Lib.hid hK
    have hw9 : w.heap.size ≤ w1.heap.size := by omega
    have hdw : w.heap.size ≤ D := by omega
    have hDl := (Array.getElem?_eq_some_iff.1 hK).1
    by_cases h8 : d.length ≤ 868
    · rw [show imageOf d = (image9 d, 0) from by unfold imageOf; rw [if_neg (by rw [hdb]; simp), if_neg (by omega)]] at himg
      have hil := image_len d
      have h31 := blocks_31 h8
      obtain ⟨img, hi9⟩ : ∃ img, image9 d = img := ⟨_, rfl⟩
      rw [hi9] at himg hco hil
      have HIM := Lib.hid himg
      have HIL := Lib.hid (show img.length ≤ 2000 by omega)
      have hrd2 := fun W2 (h : Below W'.heap.size W' W2) => (hr.below (below_two hB h))
      have HRX := Lib.hid hrd2
      clear himg hil h31 hi9 hdb hcd hrd ho hv hB hK hrd2
      by_cases he : img = xs
      · rw [if_pos ⟨h8, he⟩] at hco
        have HDE := Lib.hid (show decide (img = xs) = true from decide_eq_true he)
        have HC := Lib.hid hco
        clear he hco
        gi_wp2_with (first
          | (refine ⟨trivial, ?_⟩; gi_at_call 11; refine (callsIn_wide.2 HIM.out).mono ?_; rintro e w2 m2; obtain ⟨p2, c2, rfl, -, r2, b2⟩ := Makes2.get (show Makes2 2 W' img 0 e w2 from m2); have R2 := Lib.hid r2; have B2 := Lib.hid b2; clear m2 r2 b2)
          | (refine ⟨trivial, ?_⟩; gi_at_call 41; refine (callsIn_wide.2 (equal_any _ _ _ _ _ _ _ _ _ R2.out (HRX.out _ B2.out) (by have := HIL.out; omega) (by omega))).mono ?_; rintro e w3 ⟨rfl, q, rfl⟩; rw [HDE.out]; have B3 := Lib.hid (below_drewN' B2.out q); have V3 := Lib.hid (boxed_below HV.out B3.out); have vc := V3.out.cell))
        have K3 := (B3.out.block D hDl).trans HK.out
        refine ⟨by simp, .inl ⟨_, _, rfl, run_takeDeferred K3, ?_⟩⟩
        exact ⟨_, results_tmp2 rfl _ _ _, _, by rw [HC.out]; rfl, by rw [HC.out]; exact (own_put (HO.out.below B3.out) K3).more hw9, (below_two HB.out B3.out).trans (belowK_b (w := w) (Nat.le_refl _) _ D _ (.deferred none) hdw K3 rfl rfl)⟩
      · rw [if_neg (by intro hh; exact he hh.2)] at hco
        have HDE := Lib.hid (show decide (img = xs) = false from decide_eq_false he)
        have HC := Lib.hid hco
        clear he hco
        gi_wp2_with (first
          | (refine ⟨trivial, ?_⟩; gi_at_call 11; refine (callsIn_wide.2 HIM.out).mono ?_; rintro e w2 m2; obtain ⟨p2, c2, rfl, -, r2, b2⟩ := Makes2.get (show Makes2 2 W' img 0 e w2 from m2); have R2 := Lib.hid r2; have B2 := Lib.hid b2; clear m2 r2 b2)
          | (refine ⟨trivial, ?_⟩; gi_at_call 41; refine (callsIn_wide.2 (equal_any _ _ _ _ _ _ _ _ _ R2.out (HRX.out _ B2.out) (by have := HIL.out; omega) (by omega))).mono ?_; rintro e w3 ⟨rfl, q, rfl⟩; rw [HDE.out]; have B3 := Lib.hid (below_drewN' B2.out q); have V3 := Lib.hid (boxed_below HV.out B3.out); have vc := V3.out.cell))
        have K3 := (B3.out.block D hDl).trans HK.out
        refine ⟨by simp, .inl ⟨_, _, rfl, run_takeDeferred K3, ?_⟩⟩
        exact ⟨_, results_tmp2 rfl _ _ _, _, by rw [HC.out]; rfl, by rw [HC.out]; exact Own.nil_, (below_two HB.out B3.out).trans (belowK_b (w := w) (Nat.le_refl _) _ D _ (.deferred none) hdw K3 rfl rfl)⟩
    · rw [show imageOf d = ([], 3) from by unfold imageOf; rw [if_neg (by rw [hdb]; simp), if_pos (by omega)]] at himg
      rw [if_neg (by intro hh; exact h8 hh.1)] at hco
      have HIM := Lib.hid himg
      have HC := Lib.hid hco
      clear himg hdb hcd hrd ho hv hB hK hco h8
      gi_wp2_with (refine ⟨trivial, ?_⟩; gi_at_call 11; refine (callsIn_wide.2 HIM.out).mono ?_; rintro e w2 m2; obtain ⟨p2, c2, rfl, -, -, b2⟩ := Makes2.get (show Makes2 2 W' [] 3 e w2 from m2); have B3 := Lib.hid b2; clear m2 b2)
      refine ⟨trivial, ?_⟩
      gi_wp2
      have K3 := (B3.out.block D hDl).trans HK.out
      refine ⟨by simp, .inl ⟨_, _, rfl, run_takeDeferred K3, ?_⟩⟩
      exact ⟨_, results_tmp2 rfl _ _ _, _, by rw [HC.out]; rfl, by rw [HC.out]; exact Own.nil_, (below_two HB.out B3.out).trans (belowK_b (w := w) (Nat.le_refl _) _ D _ (.deferred none) hdw K3 rfl rfl)⟩
  case stop =>
    rintro D c k W' _ _ _ h _
    exact h.elim
theorem dataOfImage_any (ao : Option Addr) (cap : Nat) (xs : List Int) (w : World) (hr : Rd w ao xs.length xs) (hn : xs.length ≤ 1048576) (hcap : xs.length ≤ cap) (hcap2 : cap ≤ 9223372036854775807) :
    Calls Try.prog 14 #[.slice ao xs.length cap] w (Makes2 2 w (dataOfImage xs).1 (dataOfImage xs).2) := by
  have hdmg := damagedBlocks_any ao cap xs w hr hn hcap hcap2
  rcases hb : isBytes xs with _ | _
  · rw [show dataOfImage xs = ([], 2) from by unfold dataOfImage; rw [hb]; rfl]
    rw [show damagedBlocks xs = ([], 2) from by unfold damagedBlocks; rw [hb]; rfl] at hdmg
    have HD := Lib.hid hdmg
    clear hdmg hr hcap hcap2 hb hn
    generalize xs.length = n at *
    go_enter Try.func14, Try.ntmps14
    go_wp2_with fail
    refine HD.out.mono ?_
    rintro e w2 m2
    obtain ⟨p2, c2, rfl, -, -, b2⟩ := Makes2.get (show Makes2 2 w [] 2 e w2 from m2)
    have B2 := Lib.hid b2
    clear m2 b2
    go_wp2
    go_ret2
    exact ⟨_, rfl, Own.nil_, B2.out⟩
  · rw [show dataOfImage xs = dataCode xs from by unfold dataOfImage dataCode; rw [if_neg (by rw [hb]; simp)]]
    by_cases hd : damaged9 xs = []
    · exact data_in ao xs.length cap xs w hr hb hcap hcap2 hd
    · rw [show dataCode xs = ([], 7) from by unfold dataCode; rw [if_pos hd]]
      rw [show damagedBlocks xs = (dmgTo xs (slicesOf xs.length), 0) from by unfold damagedBlocks; rw [if_neg (by rw [hb]; simp), dmgTo_all]] at hdmg
      have hne : 0 < (dmgTo xs (slicesOf xs.length)).length := by
        rcases h : dmgTo xs (slicesOf xs.length) with _ | ⟨a, l⟩
        · exact absurd ((dmg_nil xs).1 h) hd
        · simp
      generalize dmgTo xs (slicesOf xs.length) = ds at hdmg hne
      have HD := Lib.hid hdmg
      clear hdmg hr hcap hcap2 hb hn hd
      generalize xs.length = n at *
      go_enter Try.func14, Try.ntmps14
      go_wp2_with fail
      refine HD.out.mono ?_
      rintro e w2 m2
      obtain ⟨p2, c2, rfl, -, -, b2⟩ := Makes2.get (show Makes2 2 w ds 0 e w2 from m2)
      have B2 := Lib.hid b2
      clear m2 b2
      go_wp2
      go_ret2
      exact ⟨_, rfl, Own.nil_, B2.out⟩
end Go.Proofs.Ytckaknaeddiphaa
