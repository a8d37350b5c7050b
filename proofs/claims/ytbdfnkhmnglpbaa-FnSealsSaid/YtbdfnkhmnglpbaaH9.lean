/-
  Chapter 7: draws: DrawBodySize, DrawKindOfHead, l07DrawId, DrawSealFrame.
-/
import Derived.Test.YtbdfnkhmnglpbaaH8
import Derived.Test.YtbdfnkhmnglpbaaSixI
import Derived.Test.YtbdfnkhmnglpbaaDrId
namespace Go.Proofs.Ytbdfnkhmnglpbaa
open Go.RowKit

/-- Block b holds a table. -/
def TabAt (E : Nat) (cs : Array Value) (w : World) (b : Nat) : Prop := w.heap[b]? = some (.cells cs E (0, 0))
section
variable {E b : Nat} {cs : Array Value} {w w' : World}
theorem TabAt.new (w : World) : TabAt E cs (w.alloc (.cells cs E)) w.heap.size := heap_alloc_new w _
theorem TabAt.lt (h : TabAt E cs w b) : b < w.heap.size := (Array.getElem?_eq_some_iff.1 h).1
theorem TabAt.grown {g : Option Nat} (h : TabAt E cs w b) (hg : w.grownBy w' g) (hne : some b ≠ g) : TabAt E cs w' b := (hg.block b h.lt hne).trans h
theorem TabAt.cell (h : TabAt E cs w b) (z : Nat) : w.cell? ⟨b, z, none⟩ = cs[z]? := cell_of_row w b z _ _ (0, 0) h
end
def tab6 : Array Value := #[.int .i64 0, .int .i64 1, .int .i64 5, .int .i64 32, .int .i64 33, .int .i64 (-1)]
theorem tab6_at (z : Nat) (h : z < 6) : ∃ x : Int, tab6[z]? = some (.int .i64 x) := by
  match z, h with
  | 0, _ | 1, _ | 2, _ | 3, _ | 4, _ | 5, _ => exact ⟨_, rfl⟩
/-- What a draw of two numbers leaves. -/
def DrawnTwoN (w : World) (e : Ending) (w' : World) : Prop := ∃ a b : Int, e = .returned (.tuple #[.int .i64 a, .int .i64 b]) ∧ Below w.heap.size w w'
/-- What a draw of a number leaves. -/
def DrawnOneN (w : World) (e : Ending) (w' : World) : Prop := ∃ a : Int, e = .returned (.int .i64 a) ∧ Below w.heap.size w w'
theorem kinds_facts {a n z : Int} (h : bodySize a n = (z, 0)) : 1 ≤ z ∧ (hasState a = true → 9 ≤ z) ∧ (hasData a = false → n = 0) ∧ sealSize a n = (z + 3, 0) := by
  have hs : sealSize a n = (z + 3, 0) := by unfold sealSize; rw [h]; rfl
  unfold bodySize at h
  split at h
  · simp at h
  split at h
  · simp at h
  rename_i h1 h2
  have hk : sizeOk a n = true := by simpa using h2
  have hle := sizeOk_le hk
  simp only [Prod.mk.injEq, and_true] at h
  refine ⟨?_, fun h3 => ?_, fun h4 => sizeOk_none hk h4, hs⟩
  · rw [← h]; split <;> split <;> omega
  · rw [← h, if_pos h3]; split <;> omega
theorem grown_five (w : World) (b : Nat) (t m r s k : Int) : w.grownBy (setFive w b t m r s k) (some b) :=
  grown_trans (grown_trans (grown_trans (grown_trans (grown_setCell w b 0 _) (grown_setCell _ b 1 _)) (grown_setCell _ b 2 _)) (grown_setCell _ b 3 _)) (grown_setCell _ b 4 _)
/-- The blocks of the results, the frame in block J, its data. -/
structure DCo (w wi : World) (J : Nat) (x0 x1 x2 x3 x4 x5 x6 : Int) (x7 : Value) (y0 y1 y2 y3 y4 : Int) (a q t m r s k : Int) (v : Value) (xs : List Int) : Prop where
  rf : FrameAt 28 wi w.heap.size x0 x1 x2 x3 x4 x5 x6 x7
  rs : StateAt 25 wi (w.heap.size + 1) y0 y1 y2 y3 y4
  var : FrameAt 28 wi J a q t m r s k v
  own : Own 2 wi (w.heap.size + 2) v xs
  below : Below w.heap.size w wi
  hj : w.heap.size + 2 ≤ J
/-- While a sealed frame is drawn: and the source. -/
structure DSt (w wi : World) (p J : Nat) (x0 x1 x2 x3 x4 x5 x6 : Int) (x7 : Value) (y0 y1 y2 y3 y4 : Int) (a q t m r s k : Int) (v : Value) (xs : List Int) : Prop where
  co : DCo w wi J x0 x1 x2 x3 x4 x5 x6 x7 y0 y1 y2 y3 y4 a q t m r s k v xs
  src : Src 133 wi p
  hp : w.heap.size + 2 ≤ p
  hne : J ≠ p
  hvp : ∀ i, v.ownBlock = some i → i ≠ p
section
variable {w wi wj : World} {p J : Nat} {x0 x1 x2 x3 x4 x5 x6 : Int} {x7 : Value} {y0 y1 y2 y3 y4 : Int} {a q t m r s k : Int} {v : Value} {xs : List Int}
theorem DSt.next (h : DSt w wi p J x0 x1 x2 x3 x4 x5 x6 x7 y0 y1 y2 y3 y4 a q t m r s k v xs) (hs : Src 133 wj p) (g : wi.grownBy wj (some p)) : DSt w wj p J x0 x1 x2 x3 x4 x5 x6 x7 y0 y1 y2 y3 y4 a q t m r s k v xs :=
  have h1 := h.hp
  have h2 := h.hne
  ⟨⟨h.co.rf.grown g (by simp; omega), h.co.rs.grown g (by simp; omega), h.co.var.grown g (by simp; omega), h.co.own.only g (by
    cases hk : v.ownBlock with
    | none => exact .inl rfl
    | some i => exact .inr (fun e => h.hvp i hk (by simpa using e))), only_below h.co.below g h.co.below.size (fun k hk => by cases hk; omega), h.co.hj⟩, hs, h.hp, h.hne, h.hvp⟩
theorem DCo.call (h : DCo w wi J x0 x1 x2 x3 x4 x5 x6 x7 y0 y1 y2 y3 y4 a q t m r s k v xs) (b : Below wi.heap.size wi wj) : DCo w wj J x0 x1 x2 x3 x4 x5 x6 x7 y0 y1 y2 y3 y4 a q t m r s k v xs :=
  ⟨h.rf.below b h.rf.lt, h.rs.below b h.rs.lt, h.var.below b h.var.lt, h.own.below b, below_two h.below b, h.hj⟩
theorem DSt.call (h : DSt w wi p J x0 x1 x2 x3 x4 x5 x6 x7 y0 y1 y2 y3 y4 a q t m r s k v xs) (b : Below wi.heap.size wi wj) : DSt w wj p J x0 x1 x2 x3 x4 x5 x6 x7 y0 y1 y2 y3 y4 a q t m r s k v xs :=
  ⟨h.co.call b, h.src.below b, h.hp, h.hne, h.hvp⟩
theorem DCo.frame (h : DCo w wi J x0 x1 x2 x3 x4 x5 x6 x7 y0 y1 y2 y3 y4 a q t m r s k v xs) (z0 z1 z2 z3 z4 z5 z6 : Int) (z7 : Value) : DCo w (setEight wi w.heap.size z0 z1 z2 z3 z4 z5 z6 z7) J z0 z1 z2 z3 z4 z5 z6 z7 y0 y1 y2 y3 y4 a q t m r s k v xs :=
  have b : Below w.heap.size wi (setEight wi w.heap.size z0 z1 z2 z3 z4 z5 z6 z7) := below_eight (Nat.le_refl _) _ _ _ _ _ _ _ _
  have g := grown_eight wi w.heap.size z0 z1 z2 z3 z4 z5 z6 z7
  have h2 := h.hj
  ⟨h.rf.eight z0 z1 z2 z3 z4 z5 z6 z7, h.rs.grown g (by simp), h.var.grown g (by simp; omega), h.own.notEight (own_above h.own (by omega)) _ _ _ _ _ _ _ _, h.below.trans b, h.hj⟩
theorem DCo.state (h : DCo w wi J x0 x1 x2 x3 x4 x5 x6 x7 y0 y1 y2 y3 y4 a q t m r s k v xs) (z0 z1 z2 z3 z4 : Int) : DCo w (setFive wi (w.heap.size + 1) z0 z1 z2 z3 z4) J x0 x1 x2 x3 x4 x5 x6 x7 z0 z1 z2 z3 z4 a q t m r s k v xs :=
  have b : Below w.heap.size wi (setFive wi (w.heap.size + 1) z0 z1 z2 z3 z4) := below_five (Nat.le_succ _) _ _ _ _ _
  have g := grown_five wi (w.heap.size + 1) z0 z1 z2 z3 z4
  have h2 := h.hj
  ⟨h.rf.grown g (by simp), h.rs.five z0 z1 z2 z3 z4, h.var.grown g (by simp; omega), h.own.only g (by
    cases hk : v.ownBlock with
    | none => exact .inl rfl
    | some i => exact .inr (fun e => by have := (h.own.block i hk).1; simp at e; omega)), h.below.trans b, h.hj⟩
end
theorem DSt.start {w w2 : World} {p : Nat} {a q t m r s k : Int} {v : Value} {xs : List Int} (hb : Below (w.heap.size + 2) ((w.alloc (.cells #[.int .i64 0, .int .i64 0, .int .i64 0, .int .i64 0, .int .i64 0, .int .i64 0, .int .i64 0, .slice none 0 0] 28)).alloc (.cells #[.int .i64 0, .int .i64 0, .int .i64 0, .int .i64 0, .int .i64 0] 25)) w2) (hp : w.heap.size + 2 ≤ p) (hs : Src 133 w2 p) (ho : Own 2 w2 (w.heap.size + 2) v xs) (hvp : ∀ i, v.ownBlock = some i → i ≠ p) :
    DSt w (w2.alloc (.cells #[.int .i64 a, .int .i64 q, .int .i64 t, .int .i64 m, .int .i64 r, .int .i64 s, .int .i64 k, v] 28)) p w2.heap.size 0 0 0 0 0 0 0 (.slice none 0 0) 0 0 0 0 0 a q t m r s k v xs := by
  have e1 : (w.alloc (.cells #[.int .i64 0, .int .i64 0, .int .i64 0, .int .i64 0, .int .i64 0, .int .i64 0, .int .i64 0, .slice none 0 0] 28)).heap.size = w.heap.size + 1 := by simp
  have e2 : ((w.alloc (.cells #[.int .i64 0, .int .i64 0, .int .i64 0, .int .i64 0, .int .i64 0, .int .i64 0, .int .i64 0, .slice none 0 0] 28)).alloc (.cells #[.int .i64 0, .int .i64 0, .int .i64 0, .int .i64 0, .int .i64 0] 25)).heap.size = w.heap.size + 2 := by simp
  have z1 : FrameAt 28 ((w.alloc (.cells #[.int .i64 0, .int .i64 0, .int .i64 0, .int .i64 0, .int .i64 0, .int .i64 0, .int .i64 0, .slice none 0 0] 28)).alloc (.cells #[.int .i64 0, .int .i64 0, .int .i64 0, .int .i64 0, .int .i64 0] 25)) w.heap.size 0 0 0 0 0 0 0 (.slice none 0 0) := (FrameAt.new w).below (Below.alloc (Below.refl _ _) (Nat.le_refl _) _) (by simp)
  have z2 : StateAt 25 ((w.alloc (.cells #[.int .i64 0, .int .i64 0, .int .i64 0, .int .i64 0, .int .i64 0, .int .i64 0, .int .i64 0, .slice none 0 0] 28)).alloc (.cells #[.int .i64 0, .int .i64 0, .int .i64 0, .int .i64 0, .int .i64 0] 25)) (w.heap.size + 1) 0 0 0 0 0 := by
    have h := StateAt.new (T := 25) (t := 0) (m := 0) (r := 0) (s := 0) (k := 0) (w.alloc (.cells #[.int .i64 0, .int .i64 0, .int .i64 0, .int .i64 0, .int .i64 0, .int .i64 0, .int .i64 0, .slice none 0 0] 28))
    rwa [e1] at h
  have b1 : Below w2.heap.size w2 (w2.alloc (.cells #[.int .i64 a, .int .i64 q, .int .i64 t, .int .i64 m, .int .i64 r, .int .i64 s, .int .i64 k, v] 28)) := (Below.refl _ _).alloc (Nat.le_refl _) _
  have hsz := hb.size
  rw [e2] at hsz
  have hl := hs.lt
  have b0 : Below w.heap.size w ((w.alloc (.cells #[.int .i64 0, .int .i64 0, .int .i64 0, .int .i64 0, .int .i64 0, .int .i64 0, .int .i64 0, .slice none 0 0] 28)).alloc (.cells #[.int .i64 0, .int .i64 0, .int .i64 0, .int .i64 0, .int .i64 0] 25)) := ((Below.refl _ _).alloc (Nat.le_refl _) _).alloc (by simp) _
  exact ⟨⟨(z1.below hb (by omega)).below b1 (by omega), (z2.below hb (by omega)).below b1 (by omega), FrameAt.new w2, ho.below b1, below_two (b0.trans (hb.mono (by omega))) b1, hsz⟩, hs.below b1, hp, by omega, hvp⟩
/-- What a draw of a frame, a number and a state leaves. -/
def DrawnSeal (w : World) (e : Ending) (w' : World) : Prop :=
  ∃ (a q t m r s k : Int) (ao : Option Addr) (cap : Nat) (d : List Int) (id t' m' r' s' k' : Int), e = .returned (.tuple #[.agg #[.int .i64 a, .int .i64 q, .int .i64 t, .int .i64 m, .int .i64 r, .int .i64 s, .int .i64 k, .slice ao d.length cap], .int .i64 id, .agg #[.int .i64 t', .int .i64 m', .int .i64 r', .int .i64 s', .int .i64 k']]) ∧ Own 2 w' w.heap.size (.slice ao d.length cap) d ∧ d.length ≤ 9000 ∧ Below w.heap.size w w'
set_option linter.unusedSimpArgs false in
set_option linter.unusedVariables false in
set_option maxHeartbeats 1000000 in
set_option maxRecDepth 100000 in
theorem drawSealFrame_any (ai : Option Addr) (n capi : Nat) (cs : List Int) (w : World) (hr : RdB w w.heap.size ai n cs) (hn : n ≤ 1048576) :
    Calls Try.prog 19 #[.slice ai n capi] w (DrawnSeal w) := by
  have hb0 : Below w.heap.size w ((w.alloc (.cells #[.int .i64 0, .int .i64 0, .int .i64 0, .int .i64 0, .int .i64 0, .int .i64 0, .int .i64 0, .slice none 0 0] 28)).alloc (.cells #[.int .i64 0, .int .i64 0, .int .i64 0, .int .i64 0, .int .i64 0] 25)) := ((Below.refl _ _).alloc (Nat.le_refl _) _).alloc (by simp) _
  have hr0 := rdB_grow hr hb0
  have e2 : ((w.alloc (.cells #[.int .i64 0, .int .i64 0, .int .i64 0, .int .i64 0, .int .i64 0, .int .i64 0, .int .i64 0, .slice none 0 0] 28)).alloc (.cells #[.int .i64 0, .int .i64 0, .int .i64 0, .int .i64 0, .int .i64 0] 25)).heap.size = w.heap.size + 2 := by simp
  have HR := Lib.hid hr0; clear hr0 hr hb0
  have hst := fun (p : Nat) (w2 : World) (a q t m r s k : Int) (v : Value) (xs : List Int) => DSt.start (w := w) (w2 := w2) (p := p) (a := a) (q := q) (t := t) (m := m) (r := r) (s := s) (k := k) (v := v) (xs := xs)
  have HST := Lib.hid hst; have E2 := Lib.hid e2; clear hst e2
  go_enter Try.func19, Try.ntmps19
  go_wp2_with fail
  generalize (w.alloc (.cells #[.int .i64 0, .int .i64 0, .int .i64 0, .int .i64 0, .int .i64 0, .int .i64 0, .int .i64 0, .slice none 0 0] 28)).alloc (.cells #[.int .i64 0, .int .i64 0, .int .i64 0, .int .i64 0, .int .i64 0] 25) = w0 at HR HST E2 ⊢
  refine (from_any _ _ _ cs _ HR.out hn).mono ?_
  rintro e w1 ⟨p, rfl, hlo, hs1, hb1⟩
  have hsz1 := hb1.size
  have H1 : Hid (HeldS 2 133 w0 w1 p []) := HeldS.start hb1 hlo hs1
  have HLO := Lib.hid hlo
  clear hlo hs1 hb1
  go_wp2_with fail
  refine (l06DrawAny_any _ _ H1.out.src).mono ?_
  rintro e w2 ⟨a, q, t, m, r, s, k, ao, cap, d, rfl, o2, hdl, hs2, g2⟩
  have H2 := Lib.hid (H1.out.next hs2 g2)
  have hvp : ∀ i, (Value.slice ao d.length cap).ownBlock = some i → i ≠ p := fun i hi e => by have := (o2.block i hi).1; have := H1.out.src.lt; omega
  have D2 := Lib.hid (HST.out p w2 a q t m r s k (.slice ao d.length cap) d (by rw [← E2.out]; exact H2.out.below) (by have := HLO.out; rw [E2.out] at this; exact this) hs2 (o2.more (by have := E2.out; omega)) hvp)
  clear hs2 g2 H1 H2 o2 hvp HST HR
  go_wp2_with fail
  obtain ⟨J, hJ⟩ : ∃ b, b = w2.heap.size := ⟨_, rfl⟩
  rw [← hJ] at D2 ⊢
  clear hJ
  generalize w2.alloc (.cells #[.int .i64 a, .int .i64 q, .int .i64 t, .int .i64 m, .int .i64 r, .int .i64 s, .int .i64 k, .slice ao d.length cap] 28) = w3 at D2 ⊢
  refine (l07DrawId_any _ _ D2.out.src).mono ?_
  rintro e w4 ⟨id, rfl, hs4, g4⟩
  have D4 := Lib.hid (D2.out.next hs4 g4)
  clear hs4 g4 D2
  have c0 := D4.out.co.var.c0
  go_wp2_with fail
  clear c0
  refine (l06State_any _ _).mono ?_
  rintro e w5 ⟨rfl, rfl⟩
  rcases hst : (a != 0) with _ | _
  · go_upto_region 6 with fail
    have D8 := Lib.hid (D4.out.call (Below.drew (Below.refl _ _)))
    refine wp_region_held_drew (S := fun w' => (w'.cell? ⟨J, 0, none⟩ = some (.int .i64 a) ∧ w'.cell? ⟨J, 1, none⟩ = some (.int .i64 q) ∧ w'.cell? ⟨J, 2, none⟩ = some (.int .i64 t) ∧ w'.cell? ⟨J, 3, none⟩ = some (.int .i64 m) ∧ w'.cell? ⟨J, 4, none⟩ = some (.int .i64 r) ∧ w'.cell? ⟨J, 5, none⟩ = some (.int .i64 s) ∧ w'.cell? ⟨J, 6, none⟩ = some (.int .i64 k) ∧ w'.cell? ⟨J, 7, none⟩ = some (.slice ao d.length cap))) (by kernel_rfl) (frame_cells D8.out.co.var) (fun hHeld => ?_)
    generalize w4.drew = w8 at D8 hHeld ⊢
    refine wpAnyH_take (i := 0) (v := ?_) rfl (by kernel_rfl) (by kernel_rfl) (by kernel_rfl) (fun _ _ _ h => h) (Or.inl ⟨by rfl, ?_⟩) (by assumption) ?_
    rotate_left
    · (intro w hSw; (try dsimp only at hSw); go_simp; (try with_reducible rfl))
    try simp only [List.getElem_toArray, List.getElem_cons_succ, List.getElem_cons_zero, Act.put, List.setIfInBounds_toArray, List.set_cons_zero, List.set_cons_succ]
    refine wpAnyH_take (i := 1) (v := ?_) rfl (by kernel_rfl) (by kernel_rfl) (by kernel_rfl) (fun _ _ _ h => h) (Or.inl ⟨by rfl, ?_⟩) (by assumption) ?_
    rotate_left
    · (intro w hSw; (try dsimp only at hSw); go_simp; (try with_reducible rfl))
    try simp only [List.getElem_toArray, List.getElem_cons_succ, List.getElem_cons_zero, Act.put, List.setIfInBounds_toArray, List.set_cons_zero, List.set_cons_succ]
    refine wpAnyH_take (i := 2) (v := ?_) rfl (by kernel_rfl) (by kernel_rfl) (by kernel_rfl) (fun _ _ _ h => h) (Or.inl ⟨by rfl, ?_⟩) (by assumption) ?_
    rotate_left
    · (intro w hSw; (try dsimp only at hSw); go_simp; (try with_reducible rfl))
    try simp only [List.getElem_toArray, List.getElem_cons_succ, List.getElem_cons_zero, Act.put, List.setIfInBounds_toArray, List.set_cons_zero, List.set_cons_succ]
    refine wpAnyH_ready (rs := [3]) (by kernel_rfl) (by simp) (AllReadyH.cons rfl (fun K hK => ?_) AllReadyH.nil)
    go_simp
    refine (l04DrawAny_any _ _ D8.out.src).mono ?_
    rintro e wc ⟨t', m', r', s', k', rfl, hsc, gc⟩
    have DC := Lib.hid (D8.out.next hsc gc).co
    clear hsc gc D8
    go_wp2_with fail
    refine hK.out _ _ ?_ (fun hHeld => ?_)
    · exact frame_cells DC.out.var
    clear hK K
    try simp only [List.getElem_toArray, List.getElem_cons_succ, List.getElem_cons_zero, Act.put, List.setIfInBounds_toArray, List.set_cons_zero, List.set_cons_succ]
    have rc0 := DC.out.rf.c0
    have rf0 := DC.out.rf.f 0
    have rc1 := DC.out.rf.c1
    have rf1 := DC.out.rf.f 1
    have rc2 := DC.out.rf.c2
    have rf2 := DC.out.rf.f 2
    have rc3 := DC.out.rf.c3
    have rf3 := DC.out.rf.f 3
    have rc4 := DC.out.rf.c4
    have rf4 := DC.out.rf.f 4
    have rc5 := DC.out.rf.c5
    have rf5 := DC.out.rf.f 5
    have rc6 := DC.out.rf.c6
    have rf6 := DC.out.rf.f 6
    have rc7 := DC.out.rf.c7
    have rf7 := DC.out.rf.f 7
    refine wpAnyH_ready (rs := [4]) (by kernel_rfl) (by simp) (AllReadyH.cons rfl (fun K hK => ?_) AllReadyH.nil)
    go_simp
    clear rc0 rf0 rc1 rf1 rc2 rf2 rc3 rf3 rc4 rf4 rc5 rf5 rc6 rf6 rc7 rf7
    have D9 := Lib.hid (DC.out.frame a q t m r s k (.slice ao d.length cap))
    clear DC
    first | change K _ (setEight wc w.heap.size a q t m r s k (.slice ao d.length cap)) | skip
    generalize setEight wc w.heap.size a q t m r s k (.slice ao d.length cap) = w9 at D9 ⊢
    refine hK.out _ _ ?_ (fun hHeld => ?_)
    · exact frame_cells D9.out.var
    clear hK K
    try simp only [List.getElem_toArray, List.getElem_cons_succ, List.getElem_cons_zero, Act.put, List.setIfInBounds_toArray, List.set_cons_zero, List.set_cons_succ]
    refine wpAnyH_take (i := 5) (v := ?_) rfl (by kernel_rfl) (by kernel_rfl) (by kernel_rfl) (fun _ _ _ h => h) (Or.inl ⟨by rfl, ?_⟩) (by assumption) ?_
    rotate_left
    · (intro w hSw; (try dsimp only at hSw); go_simp; (try with_reducible rfl))
    try simp only [List.getElem_toArray, List.getElem_cons_succ, List.getElem_cons_zero, Act.put, List.setIfInBounds_toArray, List.set_cons_zero, List.set_cons_succ]
    have sc0 := D9.out.rs.c0
    have sf0 := D9.out.rs.f 0
    have sc1 := D9.out.rs.c1
    have sf1 := D9.out.rs.f 1
    have sc2 := D9.out.rs.c2
    have sf2 := D9.out.rs.f 2
    have sc3 := D9.out.rs.c3
    have sf3 := D9.out.rs.f 3
    have sc4 := D9.out.rs.c4
    have sf4 := D9.out.rs.f 4
    refine wpAnyH_ready (rs := [6]) (by kernel_rfl) (by simp) (AllReadyH.cons rfl (fun K hK => ?_) AllReadyH.nil)
    go_simp
    clear sc0 sf0 sc1 sf1 sc2 sf2 sc3 sf3 sc4 sf4
    have DA := Lib.hid (D9.out.state t' m' r' s' k')
    clear D9
    first | change K _ (setFive w9 (w.heap.size + 1) t' m' r' s' k') | skip
    generalize setFive w9 (w.heap.size + 1) t' m' r' s' k' = wA at DA ⊢
    refine hK.out _ _ ?_ (fun hHeld => ?_)
    · exact frame_cells DA.out.var
    clear hK K
    try simp only [List.getElem_toArray, List.getElem_cons_succ, List.getElem_cons_zero, Act.put, List.setIfInBounds_toArray, List.set_cons_zero, List.set_cons_succ]
    refine wpAnyH_done (by kernel_rfl) ?_ _
    go_wp2_with fail
    have e0 := DA.out.rf.c0
    have e1 := DA.out.rf.c1
    have e2 := DA.out.rf.c2
    have e3 := DA.out.rf.c3
    have e4 := DA.out.rf.c4
    have e5 := DA.out.rf.c5
    have e6 := DA.out.rf.c6
    have e7 := DA.out.rf.c7
    have k0 := DA.out.rs.c0
    have k1 := DA.out.rs.c1
    have k2 := DA.out.rs.c2
    have k3 := DA.out.rs.c3
    have k4 := DA.out.rs.c4
    exact bodyPost_ret (v := .tuple #[.agg #[.int .i64 a, .int .i64 q, .int .i64 t, .int .i64 m, .int .i64 r, .int .i64 s, .int .i64 k, .slice ao d.length cap], .int .i64 id, .agg #[.int .i64 t', .int .i64 m', .int .i64 r', .int .i64 s', .int .i64 k']]) (by simp [results, Try.results19, go_sem, e0, e1, e2, e3, e4, e5, e6, e7, k0, k1, k2, k3, k4]) rfl ⟨_, _, _, _, _, _, _, _, _, d, _, _, _, _, _, _, rfl, DA.out.own.more (by omega), hdl, DA.out.below⟩
  obtain ⟨c0, c1, c2, c3, c4, c5, c6, c7⟩ := frame_cells D4.out.co.var
  go_wp2_with fail
  clear c0 c1 c2 c3 c4 c5 c6 c7
  refine (sIsState_any _ _ _ _ _ _).mono ?_
  rintro e w5 ⟨rfl, b5⟩
  have D5 := Lib.hid (D4.out.call b5)
  clear b5 D4
  rcases hss : isState t m r s k with _ | _
  · go_upto_region 6 with fail
    have D8 := Lib.hid (D5.out.call (Below.drew (Below.refl _ _)))
    refine wp_region_held_drew (S := fun w' => (w'.cell? ⟨J, 0, none⟩ = some (.int .i64 a) ∧ w'.cell? ⟨J, 1, none⟩ = some (.int .i64 q) ∧ w'.cell? ⟨J, 2, none⟩ = some (.int .i64 t) ∧ w'.cell? ⟨J, 3, none⟩ = some (.int .i64 m) ∧ w'.cell? ⟨J, 4, none⟩ = some (.int .i64 r) ∧ w'.cell? ⟨J, 5, none⟩ = some (.int .i64 s) ∧ w'.cell? ⟨J, 6, none⟩ = some (.int .i64 k) ∧ w'.cell? ⟨J, 7, none⟩ = some (.slice ao d.length cap))) (by kernel_rfl) (frame_cells D8.out.co.var) (fun hHeld => ?_)
    generalize w5.drew = w8 at D8 hHeld ⊢
    refine wpAnyH_take (i := 0) (v := ?_) rfl (by kernel_rfl) (by kernel_rfl) (by kernel_rfl) (fun _ _ _ h => h) (Or.inl ⟨by rfl, ?_⟩) (by assumption) ?_
    rotate_left
    · (intro w hSw; (try dsimp only at hSw); go_simp; (try with_reducible rfl))
    try simp only [List.getElem_toArray, List.getElem_cons_succ, List.getElem_cons_zero, Act.put, List.setIfInBounds_toArray, List.set_cons_zero, List.set_cons_succ]
    refine wpAnyH_take (i := 1) (v := ?_) rfl (by kernel_rfl) (by kernel_rfl) (by kernel_rfl) (fun _ _ _ h => h) (Or.inl ⟨by rfl, ?_⟩) (by assumption) ?_
    rotate_left
    · (intro w hSw; (try dsimp only at hSw); go_simp; (try with_reducible rfl))
    try simp only [List.getElem_toArray, List.getElem_cons_succ, List.getElem_cons_zero, Act.put, List.setIfInBounds_toArray, List.set_cons_zero, List.set_cons_succ]
    refine wpAnyH_take (i := 2) (v := ?_) rfl (by kernel_rfl) (by kernel_rfl) (by kernel_rfl) (fun _ _ _ h => h) (Or.inl ⟨by rfl, ?_⟩) (by assumption) ?_
    rotate_left
    · (intro w hSw; (try dsimp only at hSw); go_simp; (try with_reducible rfl))
    try simp only [List.getElem_toArray, List.getElem_cons_succ, List.getElem_cons_zero, Act.put, List.setIfInBounds_toArray, List.set_cons_zero, List.set_cons_succ]
    refine wpAnyH_ready (rs := [3]) (by kernel_rfl) (by simp) (AllReadyH.cons rfl (fun K hK => ?_) AllReadyH.nil)
    go_simp
    refine (l04DrawAny_any _ _ D8.out.src).mono ?_
    rintro e wc ⟨t', m', r', s', k', rfl, hsc, gc⟩
    have DC := Lib.hid (D8.out.next hsc gc).co
    clear hsc gc D8
    go_wp2_with fail
    refine hK.out _ _ ?_ (fun hHeld => ?_)
    · exact frame_cells DC.out.var
    clear hK K
    try simp only [List.getElem_toArray, List.getElem_cons_succ, List.getElem_cons_zero, Act.put, List.setIfInBounds_toArray, List.set_cons_zero, List.set_cons_succ]
    have rc0 := DC.out.rf.c0
    have rf0 := DC.out.rf.f 0
    have rc1 := DC.out.rf.c1
    have rf1 := DC.out.rf.f 1
    have rc2 := DC.out.rf.c2
    have rf2 := DC.out.rf.f 2
    have rc3 := DC.out.rf.c3
    have rf3 := DC.out.rf.f 3
    have rc4 := DC.out.rf.c4
    have rf4 := DC.out.rf.f 4
    have rc5 := DC.out.rf.c5
    have rf5 := DC.out.rf.f 5
    have rc6 := DC.out.rf.c6
    have rf6 := DC.out.rf.f 6
    have rc7 := DC.out.rf.c7
    have rf7 := DC.out.rf.f 7
    refine wpAnyH_ready (rs := [4]) (by kernel_rfl) (by simp) (AllReadyH.cons rfl (fun K hK => ?_) AllReadyH.nil)
    go_simp
    clear rc0 rf0 rc1 rf1 rc2 rf2 rc3 rf3 rc4 rf4 rc5 rf5 rc6 rf6 rc7 rf7
    have D9 := Lib.hid (DC.out.frame a q t m r s k (.slice ao d.length cap))
    clear DC
    first | change K _ (setEight wc w.heap.size a q t m r s k (.slice ao d.length cap)) | skip
    generalize setEight wc w.heap.size a q t m r s k (.slice ao d.length cap) = w9 at D9 ⊢
    refine hK.out _ _ ?_ (fun hHeld => ?_)
    · exact frame_cells D9.out.var
    clear hK K
    try simp only [List.getElem_toArray, List.getElem_cons_succ, List.getElem_cons_zero, Act.put, List.setIfInBounds_toArray, List.set_cons_zero, List.set_cons_succ]
    refine wpAnyH_take (i := 5) (v := ?_) rfl (by kernel_rfl) (by kernel_rfl) (by kernel_rfl) (fun _ _ _ h => h) (Or.inl ⟨by rfl, ?_⟩) (by assumption) ?_
    rotate_left
    · (intro w hSw; (try dsimp only at hSw); go_simp; (try with_reducible rfl))
    try simp only [List.getElem_toArray, List.getElem_cons_succ, List.getElem_cons_zero, Act.put, List.setIfInBounds_toArray, List.set_cons_zero, List.set_cons_succ]
    have sc0 := D9.out.rs.c0
    have sf0 := D9.out.rs.f 0
    have sc1 := D9.out.rs.c1
    have sf1 := D9.out.rs.f 1
    have sc2 := D9.out.rs.c2
    have sf2 := D9.out.rs.f 2
    have sc3 := D9.out.rs.c3
    have sf3 := D9.out.rs.f 3
    have sc4 := D9.out.rs.c4
    have sf4 := D9.out.rs.f 4
    refine wpAnyH_ready (rs := [6]) (by kernel_rfl) (by simp) (AllReadyH.cons rfl (fun K hK => ?_) AllReadyH.nil)
    go_simp
    clear sc0 sf0 sc1 sf1 sc2 sf2 sc3 sf3 sc4 sf4
    have DA := Lib.hid (D9.out.state t' m' r' s' k')
    clear D9
    first | change K _ (setFive w9 (w.heap.size + 1) t' m' r' s' k') | skip
    generalize setFive w9 (w.heap.size + 1) t' m' r' s' k' = wA at DA ⊢
    refine hK.out _ _ ?_ (fun hHeld => ?_)
    · exact frame_cells DA.out.var
    clear hK K
    try simp only [List.getElem_toArray, List.getElem_cons_succ, List.getElem_cons_zero, Act.put, List.setIfInBounds_toArray, List.set_cons_zero, List.set_cons_succ]
    refine wpAnyH_done (by kernel_rfl) ?_ _
    go_wp2_with fail
    have e0 := DA.out.rf.c0
    have e1 := DA.out.rf.c1
    have e2 := DA.out.rf.c2
    have e3 := DA.out.rf.c3
    have e4 := DA.out.rf.c4
    have e5 := DA.out.rf.c5
    have e6 := DA.out.rf.c6
    have e7 := DA.out.rf.c7
    have k0 := DA.out.rs.c0
    have k1 := DA.out.rs.c1
    have k2 := DA.out.rs.c2
    have k3 := DA.out.rs.c3
    have k4 := DA.out.rs.c4
    exact bodyPost_ret (v := .tuple #[.agg #[.int .i64 a, .int .i64 q, .int .i64 t, .int .i64 m, .int .i64 r, .int .i64 s, .int .i64 k, .slice ao d.length cap], .int .i64 id, .agg #[.int .i64 t', .int .i64 m', .int .i64 r', .int .i64 s', .int .i64 k']]) (by simp [results, Try.results19, go_sem, e0, e1, e2, e3, e4, e5, e6, e7, k0, k1, k2, k3, k4]) rfl ⟨_, _, _, _, _, _, _, _, _, d, _, _, _, _, _, _, rfl, DA.out.own.more (by omega), hdl, DA.out.below⟩
  go_wp2_with fail
  refine (next_any _ _ _ D5.out.src (by omega)).mono ?_
  rintro e w6 ⟨y, rfl, -, -, -, hs6, g6⟩
  have D6 := Lib.hid (D5.out.next hs6 g6)
  clear hs6 g6 D5
  by_cases hy : 0 < y
  · go_upto_region 5 with fail
    have D8 := Lib.hid (D6.out.call (Below.drew (Below.refl _ _)))
    refine wp_region_held_drew (S := fun w' => (w'.cell? ⟨J, 0, none⟩ = some (.int .i64 a) ∧ w'.cell? ⟨J, 1, none⟩ = some (.int .i64 q) ∧ w'.cell? ⟨J, 2, none⟩ = some (.int .i64 t) ∧ w'.cell? ⟨J, 3, none⟩ = some (.int .i64 m) ∧ w'.cell? ⟨J, 4, none⟩ = some (.int .i64 r) ∧ w'.cell? ⟨J, 5, none⟩ = some (.int .i64 s) ∧ w'.cell? ⟨J, 6, none⟩ = some (.int .i64 k) ∧ w'.cell? ⟨J, 7, none⟩ = some (.slice ao d.length cap))) (by kernel_rfl) (frame_cells D8.out.co.var) (fun hHeld => ?_)
    generalize w6.drew = w8 at D8 hHeld ⊢
    replace D8 := Lib.hid D8.out.co
    refine wpAnyH_take (i := 0) (v := ?_) rfl (by kernel_rfl) (by kernel_rfl) (by kernel_rfl) (fun _ _ _ h => h) (Or.inl ⟨by rfl, ?_⟩) (by assumption) ?_
    rotate_left
    · (intro w hSw; (try dsimp only at hSw); go_simp; (try with_reducible rfl))
    try simp only [List.getElem_toArray, List.getElem_cons_succ, List.getElem_cons_zero, Act.put, List.setIfInBounds_toArray, List.set_cons_zero, List.set_cons_succ]
    refine wpAnyH_take (i := 1) (v := ?_) rfl (by kernel_rfl) (by kernel_rfl) (by kernel_rfl) (fun _ _ _ h => h) (Or.inl ⟨by rfl, ?_⟩) (by assumption) ?_
    rotate_left
    · (intro w hSw; (try dsimp only at hSw); go_simp; (try with_reducible rfl))
    try simp only [List.getElem_toArray, List.getElem_cons_succ, List.getElem_cons_zero, Act.put, List.setIfInBounds_toArray, List.set_cons_zero, List.set_cons_succ]
    refine wpAnyH_take (i := 2) (v := ?_) rfl (by kernel_rfl) (by kernel_rfl) (by kernel_rfl) (fun _ _ _ h => h) (Or.inl ⟨by rfl, ?_⟩) (by assumption) ?_
    rotate_left
    · (intro w hSw; (try dsimp only at hSw); go_simp; (try with_reducible rfl))
    try simp only [List.getElem_toArray, List.getElem_cons_succ, List.getElem_cons_zero, Act.put, List.setIfInBounds_toArray, List.set_cons_zero, List.set_cons_succ]
    refine wpAnyH_take (i := 3) (v := ?_) rfl (by kernel_rfl) (by kernel_rfl) (by kernel_rfl) (fun _ _ _ h => h) (Or.inl ⟨by rfl, ?_⟩) (by assumption) ?_
    rotate_left
    · (intro w hSw; (try dsimp only at hSw); go_simp; (try with_reducible rfl))
    try simp only [List.getElem_toArray, List.getElem_cons_succ, List.getElem_cons_zero, Act.put, List.setIfInBounds_toArray, List.set_cons_zero, List.set_cons_succ]
    have rc0 := D8.out.rf.c0
    have rf0 := D8.out.rf.f 0
    have rc1 := D8.out.rf.c1
    have rf1 := D8.out.rf.f 1
    have rc2 := D8.out.rf.c2
    have rf2 := D8.out.rf.f 2
    have rc3 := D8.out.rf.c3
    have rf3 := D8.out.rf.f 3
    have rc4 := D8.out.rf.c4
    have rf4 := D8.out.rf.f 4
    have rc5 := D8.out.rf.c5
    have rf5 := D8.out.rf.f 5
    have rc6 := D8.out.rf.c6
    have rf6 := D8.out.rf.f 6
    have rc7 := D8.out.rf.c7
    have rf7 := D8.out.rf.f 7
    refine wpAnyH_ready (rs := [4]) (by kernel_rfl) (by simp) (AllReadyH.cons rfl (fun K hK => ?_) AllReadyH.nil)
    go_simp
    clear rc0 rf0 rc1 rf1 rc2 rf2 rc3 rf3 rc4 rf4 rc5 rf5 rc6 rf6 rc7 rf7
    have D9 := Lib.hid (D8.out.frame a q t m r s k (.slice ao d.length cap))
    clear D8
    first | change K _ (setEight w8 w.heap.size a q t m r s k (.slice ao d.length cap)) | skip
    generalize setEight w8 w.heap.size a q t m r s k (.slice ao d.length cap) = w9 at D9 ⊢
    refine hK.out _ _ ?_ (fun hHeld => ?_)
    · exact frame_cells D9.out.var
    clear hK K
    try simp only [List.getElem_toArray, List.getElem_cons_succ, List.getElem_cons_zero, Act.put, List.setIfInBounds_toArray, List.set_cons_zero, List.set_cons_succ]
    refine wpAnyH_take (i := 5) (v := ?_) rfl (by kernel_rfl) (by kernel_rfl) (by kernel_rfl) (fun _ _ _ h => h) (Or.inl ⟨by rfl, ?_⟩) (by assumption) ?_
    rotate_left
    · (intro w hSw; (try dsimp only at hSw); go_simp; (try with_reducible rfl))
    try simp only [List.getElem_toArray, List.getElem_cons_succ, List.getElem_cons_zero, Act.put, List.setIfInBounds_toArray, List.set_cons_zero, List.set_cons_succ]
    have sc0 := D9.out.rs.c0
    have sf0 := D9.out.rs.f 0
    have sc1 := D9.out.rs.c1
    have sf1 := D9.out.rs.f 1
    have sc2 := D9.out.rs.c2
    have sf2 := D9.out.rs.f 2
    have sc3 := D9.out.rs.c3
    have sf3 := D9.out.rs.f 3
    have sc4 := D9.out.rs.c4
    have sf4 := D9.out.rs.f 4
    refine wpAnyH_ready (rs := [6]) (by kernel_rfl) (by simp) (AllReadyH.cons rfl (fun K hK => ?_) AllReadyH.nil)
    go_simp
    clear sc0 sf0 sc1 sf1 sc2 sf2 sc3 sf3 sc4 sf4
    have DA := Lib.hid (D9.out.state t m r s k)
    clear D9
    first | change K _ (setFive w9 (w.heap.size + 1) t m r s k) | skip
    generalize setFive w9 (w.heap.size + 1) t m r s k = wA at DA ⊢
    refine hK.out _ _ ?_ (fun hHeld => ?_)
    · exact frame_cells DA.out.var
    clear hK K
    try simp only [List.getElem_toArray, List.getElem_cons_succ, List.getElem_cons_zero, Act.put, List.setIfInBounds_toArray, List.set_cons_zero, List.set_cons_succ]
    refine wpAnyH_done (by kernel_rfl) ?_ _
    go_wp2_with fail
    have e0 := DA.out.rf.c0
    have e1 := DA.out.rf.c1
    have e2 := DA.out.rf.c2
    have e3 := DA.out.rf.c3
    have e4 := DA.out.rf.c4
    have e5 := DA.out.rf.c5
    have e6 := DA.out.rf.c6
    have e7 := DA.out.rf.c7
    have k0 := DA.out.rs.c0
    have k1 := DA.out.rs.c1
    have k2 := DA.out.rs.c2
    have k3 := DA.out.rs.c3
    have k4 := DA.out.rs.c4
    exact bodyPost_ret (v := .tuple #[.agg #[.int .i64 a, .int .i64 q, .int .i64 t, .int .i64 m, .int .i64 r, .int .i64 s, .int .i64 k, .slice ao d.length cap], .int .i64 id, .agg #[.int .i64 t, .int .i64 m, .int .i64 r, .int .i64 s, .int .i64 k]]) (by simp [results, Try.results19, go_sem, e0, e1, e2, e3, e4, e5, e6, e7, k0, k1, k2, k3, k4]) rfl ⟨_, _, _, _, _, _, _, _, _, d, _, _, _, _, _, _, rfl, DA.out.own.more (by omega), hdl, DA.out.below⟩
  · go_upto_region 6 with fail
    have D8 := Lib.hid (D6.out.call (Below.drew (Below.refl _ _)))
    refine wp_region_held_drew (S := fun w' => (w'.cell? ⟨J, 0, none⟩ = some (.int .i64 a) ∧ w'.cell? ⟨J, 1, none⟩ = some (.int .i64 q) ∧ w'.cell? ⟨J, 2, none⟩ = some (.int .i64 t) ∧ w'.cell? ⟨J, 3, none⟩ = some (.int .i64 m) ∧ w'.cell? ⟨J, 4, none⟩ = some (.int .i64 r) ∧ w'.cell? ⟨J, 5, none⟩ = some (.int .i64 s) ∧ w'.cell? ⟨J, 6, none⟩ = some (.int .i64 k) ∧ w'.cell? ⟨J, 7, none⟩ = some (.slice ao d.length cap))) (by kernel_rfl) (frame_cells D8.out.co.var) (fun hHeld => ?_)
    generalize w6.drew = w8 at D8 hHeld ⊢
    refine wpAnyH_take (i := 0) (v := ?_) rfl (by kernel_rfl) (by kernel_rfl) (by kernel_rfl) (fun _ _ _ h => h) (Or.inl ⟨by rfl, ?_⟩) (by assumption) ?_
    rotate_left
    · (intro w hSw; (try dsimp only at hSw); go_simp; (try with_reducible rfl))
    try simp only [List.getElem_toArray, List.getElem_cons_succ, List.getElem_cons_zero, Act.put, List.setIfInBounds_toArray, List.set_cons_zero, List.set_cons_succ]
    refine wpAnyH_take (i := 1) (v := ?_) rfl (by kernel_rfl) (by kernel_rfl) (by kernel_rfl) (fun _ _ _ h => h) (Or.inl ⟨by rfl, ?_⟩) (by assumption) ?_
    rotate_left
    · (intro w hSw; (try dsimp only at hSw); go_simp; (try with_reducible rfl))
    try simp only [List.getElem_toArray, List.getElem_cons_succ, List.getElem_cons_zero, Act.put, List.setIfInBounds_toArray, List.set_cons_zero, List.set_cons_succ]
    refine wpAnyH_take (i := 2) (v := ?_) rfl (by kernel_rfl) (by kernel_rfl) (by kernel_rfl) (fun _ _ _ h => h) (Or.inl ⟨by rfl, ?_⟩) (by assumption) ?_
    rotate_left
    · (intro w hSw; (try dsimp only at hSw); go_simp; (try with_reducible rfl))
    try simp only [List.getElem_toArray, List.getElem_cons_succ, List.getElem_cons_zero, Act.put, List.setIfInBounds_toArray, List.set_cons_zero, List.set_cons_succ]
    refine wpAnyH_ready (rs := [3]) (by kernel_rfl) (by simp) (AllReadyH.cons rfl (fun K hK => ?_) AllReadyH.nil)
    go_simp
    refine (l04DrawAny_any _ _ D8.out.src).mono ?_
    rintro e wc ⟨t', m', r', s', k', rfl, hsc, gc⟩
    have DC := Lib.hid (D8.out.next hsc gc).co
    clear hsc gc D8
    go_wp2_with fail
    refine hK.out _ _ ?_ (fun hHeld => ?_)
    · exact frame_cells DC.out.var
    clear hK K
    try simp only [List.getElem_toArray, List.getElem_cons_succ, List.getElem_cons_zero, Act.put, List.setIfInBounds_toArray, List.set_cons_zero, List.set_cons_succ]
    have rc0 := DC.out.rf.c0
    have rf0 := DC.out.rf.f 0
    have rc1 := DC.out.rf.c1
    have rf1 := DC.out.rf.f 1
    have rc2 := DC.out.rf.c2
    have rf2 := DC.out.rf.f 2
    have rc3 := DC.out.rf.c3
    have rf3 := DC.out.rf.f 3
    have rc4 := DC.out.rf.c4
    have rf4 := DC.out.rf.f 4
    have rc5 := DC.out.rf.c5
    have rf5 := DC.out.rf.f 5
    have rc6 := DC.out.rf.c6
    have rf6 := DC.out.rf.f 6
    have rc7 := DC.out.rf.c7
    have rf7 := DC.out.rf.f 7
    refine wpAnyH_ready (rs := [4]) (by kernel_rfl) (by simp) (AllReadyH.cons rfl (fun K hK => ?_) AllReadyH.nil)
    go_simp
    clear rc0 rf0 rc1 rf1 rc2 rf2 rc3 rf3 rc4 rf4 rc5 rf5 rc6 rf6 rc7 rf7
    have D9 := Lib.hid (DC.out.frame a q t m r s k (.slice ao d.length cap))
    clear DC
    first | change K _ (setEight wc w.heap.size a q t m r s k (.slice ao d.length cap)) | skip
    generalize setEight wc w.heap.size a q t m r s k (.slice ao d.length cap) = w9 at D9 ⊢
    refine hK.out _ _ ?_ (fun hHeld => ?_)
    · exact frame_cells D9.out.var
    clear hK K
    try simp only [List.getElem_toArray, List.getElem_cons_succ, List.getElem_cons_zero, Act.put, List.setIfInBounds_toArray, List.set_cons_zero, List.set_cons_succ]
    refine wpAnyH_take (i := 5) (v := ?_) rfl (by kernel_rfl) (by kernel_rfl) (by kernel_rfl) (fun _ _ _ h => h) (Or.inl ⟨by rfl, ?_⟩) (by assumption) ?_
    rotate_left
    · (intro w hSw; (try dsimp only at hSw); go_simp; (try with_reducible rfl))
    try simp only [List.getElem_toArray, List.getElem_cons_succ, List.getElem_cons_zero, Act.put, List.setIfInBounds_toArray, List.set_cons_zero, List.set_cons_succ]
    have sc0 := D9.out.rs.c0
    have sf0 := D9.out.rs.f 0
    have sc1 := D9.out.rs.c1
    have sf1 := D9.out.rs.f 1
    have sc2 := D9.out.rs.c2
    have sf2 := D9.out.rs.f 2
    have sc3 := D9.out.rs.c3
    have sf3 := D9.out.rs.f 3
    have sc4 := D9.out.rs.c4
    have sf4 := D9.out.rs.f 4
    refine wpAnyH_ready (rs := [6]) (by kernel_rfl) (by simp) (AllReadyH.cons rfl (fun K hK => ?_) AllReadyH.nil)
    go_simp
    clear sc0 sf0 sc1 sf1 sc2 sf2 sc3 sf3 sc4 sf4
    have DA := Lib.hid (D9.out.state t' m' r' s' k')
    clear D9
    first | change K _ (setFive w9 (w.heap.size + 1) t' m' r' s' k') | skip
    generalize setFive w9 (w.heap.size + 1) t' m' r' s' k' = wA at DA ⊢
    refine hK.out _ _ ?_ (fun hHeld => ?_)
    · exact frame_cells DA.out.var
    clear hK K
    try simp only [List.getElem_toArray, List.getElem_cons_succ, List.getElem_cons_zero, Act.put, List.setIfInBounds_toArray, List.set_cons_zero, List.set_cons_succ]
    refine wpAnyH_done (by kernel_rfl) ?_ _
    go_wp2_with fail
    have e0 := DA.out.rf.c0
    have e1 := DA.out.rf.c1
    have e2 := DA.out.rf.c2
    have e3 := DA.out.rf.c3
    have e4 := DA.out.rf.c4
    have e5 := DA.out.rf.c5
    have e6 := DA.out.rf.c6
    have e7 := DA.out.rf.c7
    have k0 := DA.out.rs.c0
    have k1 := DA.out.rs.c1
    have k2 := DA.out.rs.c2
    have k3 := DA.out.rs.c3
    have k4 := DA.out.rs.c4
    exact bodyPost_ret (v := .tuple #[.agg #[.int .i64 a, .int .i64 q, .int .i64 t, .int .i64 m, .int .i64 r, .int .i64 s, .int .i64 k, .slice ao d.length cap], .int .i64 id, .agg #[.int .i64 t', .int .i64 m', .int .i64 r', .int .i64 s', .int .i64 k']]) (by simp [results, Try.results19, go_sem, e0, e1, e2, e3, e4, e5, e6, e7, k0, k1, k2, k3, k4]) rfl ⟨_, _, _, _, _, _, _, _, _, d, _, _, _, _, _, _, rfl, DA.out.own.more (by omega), hdl, DA.out.below⟩
end Go.Proofs.Ytbdfnkhmnglpbaa
