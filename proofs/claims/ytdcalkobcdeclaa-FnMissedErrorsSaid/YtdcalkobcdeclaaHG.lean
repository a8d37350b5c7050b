/-
  Chapter 7: DrawMissedErrors.
-/
import Derived.Test.YtdcalkobcdeclaaHD
import Derived.Test.YtdcalkobcdeclaaFivD
import Derived.Deep.CutBlock
namespace Go.Proofs.Ytdcalkobcdeclaa
open Go.RowKit

theorem grown_five (w : World) (b : Nat) (t m r s k : Int) : w.grownBy (setFive w b t m r s k) (some b) :=
  grown_trans (grown_trans (grown_trans (grown_trans (grown_setCell w b 0 _) (grown_setCell _ b 1 _)) (grown_setCell _ b 2 _)) (grown_setCell _ b 3 _)) (grown_setCell _ b 4 _)
theorem rd_first {w : World} {g n k : Nat} {xs : List Int} (h : Rd w (some ⟨g, 0, none⟩) n xs) (hk : k ≤ n) : Rd w (some ⟨g, 0, none⟩) k (xs.take k) := h.first hk

/-- A slice of the call's own, as long as it has room. -/
def LitW (E : Nat) (w0 w : World) (v : Value) (n : Nat) : Prop := ∃ (g : Nat) (xs : List Int), v = .slice (some ⟨g, 0, none⟩) n n ∧ Own E w w0.heap.size v xs ∧ xs.length = n
/-- A slice of the call's own. -/
def LstW (E : Nat) (w0 w : World) (v : Value) (n : Nat) : Prop := ∃ (ao : Option Addr) (c : Nat) (xs : List Int), v = .slice ao n c ∧ Own E w w0.heap.size v xs ∧ xs.length = n
/-- What each operation of the draw's region leaves in its slot. -/
def PM (E : Nat) (w0 w : World) (j : Nat) (v : Value) : Prop := match j with
  | 0 => LitW E w0 w v 8
  | 1 => LitW E w0 w v 8
  | 2 => v = .agg #[.int .i64 24, .int .i64 6122955]
  | 3 => v = .int .i64 6122955
  | 4 => LstW E w0 w v 24
  | 5 => LstW E w0 w v 32
  | 6 => LstW E w0 w v 40
  | 7 => LitW E w0 w v 8
  | _ => LstW E w0 w v 48
theorem LitW.move {E n : Nat} {w0 w w' : World} {v : Value} (h : LitW E w0 w v n) (b : Below w.heap.size w w') : LitW E w0 w' v n := by
  obtain ⟨g, xs, e, o, hl⟩ := h
  exact ⟨g, xs, e, o.below b, hl⟩
theorem LstW.move {E n : Nat} {w0 w w' : World} {v : Value} (h : LstW E w0 w v n) (b : Below w.heap.size w w') : LstW E w0 w' v n := by
  obtain ⟨g, c, xs, e, o, hl⟩ := h
  exact ⟨g, c, xs, e, o.below b, hl⟩
theorem PM.move {E j : Nat} {w0 w w' : World} {v : Value} (h : PM E w0 w j v) (b : Below w.heap.size w w') : PM E w0 w' j v := by
  unfold PM at h ⊢
  split at h <;> first | exact LitW.move h b | exact LstW.move h b | exact h
structure MisI (E : Nat) (w0 : World) (l : Array Bool) (w : World) (val : Nat → Value) : Prop where
  size : l.size = 10
  below : Below w0.heap.size w0 w
  ok : ∀ j, j < 10 → fl l j = true → (j < 8 → fl l 8 = false) → PM E w0 w j (val j)
  d8 : fl l 8 = true → ∀ j, j < 8 → fl l j = true
def put (val : Nat → Value) (i : Nat) (x : Value) : Nat → Value := fun k => if k = i then x else val k
theorem MisI.open8 {E i : Nat} {w0 w : World} {l : Array Bool} {val : Nat → Value} (h : MisI E w0 l w val) (hi : i < 8) (ho : l.getD i true = false) : fl l 8 = false := by
  rcases h8 : fl l 8 with _ | _
  · rfl
  · have h1 := h.d8 h8 i hi
    have hs := size_of_open ho
    unfold fl at h1
    rw [Array.getD_eq_getD_getElem?, Array.getElem?_eq_getElem hs] at h1 ho
    simp only [Option.getD_some] at h1 ho
    rw [h1] at ho
    cases ho
/-- An operation ahead of the last append. -/
theorem MisI.step {E i : Nat} {w0 w w' : World} {l : Array Bool} {val : Nat → Value} {x : Value} (h : MisI E w0 l w val) (hi : i < 8) (ho : l.getD i true = false) (b : Below w.heap.size w w') (hx : PM E w0 w' i x) : MisI E w0 (l.setIfInBounds i true) w' (put val i x) where
  size := by rw [Array.size_setIfInBounds]; exact h.size
  below := below_step h.below h.below.size b
  ok := fun j hj hf h8 => by
    have h80 := h.open8 hi ho
    unfold put
    by_cases e : j = i
    · subst e; rw [if_pos rfl]; exact hx
    · rw [if_neg e]
      refine (h.ok j hj ?_ (fun _ => h80)).move b
      rwa [fl_set ho, if_neg (fun e' => e e'.symm)] at hf
  d8 := fun h8 => by
    rw [fl_set ho, if_neg (by omega), h.open8 hi ho] at h8
    cases h8
theorem MisI.last {E : Nat} {w0 w w' : World} {l : Array Bool} {val : Nat → Value} {x : Value} (h : MisI E w0 l w val) (ho : l.getD 8 true = false) (hall : ∀ j, j < 8 → fl l j = true) (h9 : fl l 9 = false) (b : Below w0.heap.size w0 w') (hx : LstW E w0 w' x 48) : MisI E w0 (l.setIfInBounds 8 true) w' (put val 8 x) where
  size := by rw [Array.size_setIfInBounds]; exact h.size
  below := b
  ok := fun j hj hf h8 => by
    unfold put
    rcases (show j < 8 ∨ j = 8 ∨ j = 9 from by omega) with hj | rfl | rfl
    · have := h8 hj
      rw [fl_set ho, if_pos rfl] at this
      cases this
    · rw [if_pos rfl]; exact hx
    · rw [fl_set ho, if_neg (by decide), h9] at hf
      cases hf
  d8 := fun _ j hj => by rw [fl_set ho, if_neg (by omega)]; exact hall j hj
theorem MisI.fin {E : Nat} {w0 w : World} {l : Array Bool} {val : Nat → Value} {x : Value} (h : MisI E w0 l w val) (ho : l.getD 9 true = false) (hx : LstW E w0 w x 48) : MisI E w0 (l.setIfInBounds 9 true) w (put val 9 x) where
  size := by rw [Array.size_setIfInBounds]; exact h.size
  below := h.below
  ok := fun j hj hf h8 => by
    unfold put
    by_cases e : j = 9
    · subst e; rw [if_pos rfl]; exact hx
    · rw [if_neg e]
      refine h.ok j hj ?_ (fun h' => ?_)
      · rwa [fl_set ho, if_neg (fun e' => e e'.symm)] at hf
      · have := h8 h'
        rwa [fl_set ho, if_neg (by decide)] at this
  d8 := fun h8 j hj => by
    rw [fl_set ho, if_neg (by decide)] at h8
    rw [fl_set ho, if_neg (by omega)]
    exact h.d8 h8 j hj
theorem fl_not {l : Array Bool} {j : Nat} (h : l.getD j true = false) : fl l j = false := by
  have hs := size_of_open h
  unfold fl
  rw [Array.getD_eq_getD_getElem?, Array.getElem?_eq_getElem hs] at h ⊢
  exact h
/-- The blocks of the results and of the two states that have been drawn. -/
structure DMo (w w0 wi : World) (K1 K2 : Nat) (x0 x1 x2 x3 x4 y0 y1 y2 y3 y4 a0 a1 a2 a3 a4 b0 b1 b2 b3 b4 : Int) : Prop where
  z1 : StateAt 33 wi w.heap.size x0 x1 x2 x3 x4
  z2 : StateAt 33 wi (w.heap.size + 1) y0 y1 y2 y3 y4
  k1 : StateAt 33 wi K1 a0 a1 a2 a3 a4
  k2 : StateAt 33 wi K2 b0 b1 b2 b3 b4
  b : Below w.heap.size w wi
  e : w0.heap.size = w.heap.size + 2
  h1 : w0.heap.size ≤ K1
  h2 : w0.heap.size ≤ K2
/-- And the source. -/
structure DMi (w w0 wi : World) (p K1 K2 : Nat) (x0 x1 x2 x3 x4 y0 y1 y2 y3 y4 a0 a1 a2 a3 a4 b0 b1 b2 b3 b4 : Int) : Prop where
  o : DMo w w0 wi K1 K2 x0 x1 x2 x3 x4 y0 y1 y2 y3 y4 a0 a1 a2 a3 a4 b0 b1 b2 b3 b4
  src : Src 122 wi p
  lo : w0.heap.size ≤ p
  n1 : p < K1
  n2 : p < K2
section
variable {w w0 wi wj : World} {p K1 K2 : Nat} {x0 x1 x2 x3 x4 y0 y1 y2 y3 y4 a0 a1 a2 a3 a4 b0 b1 b2 b3 b4 : Int}
theorem DMo.belowB {Bd : Nat} (D : DMo w w0 wi K1 K2 x0 x1 x2 x3 x4 y0 y1 y2 y3 y4 a0 a1 a2 a3 a4 b0 b1 b2 b3 b4) (b : Below Bd wi wj) (h1 : K1 < Bd) (h2 : K2 < Bd) : DMo w w0 wj K1 K2 x0 x1 x2 x3 x4 y0 y1 y2 y3 y4 a0 a1 a2 a3 a4 b0 b1 b2 b3 b4 :=
  have e := D.e
  have g1 := D.h1
  ⟨D.z1.below b (by omega), D.z2.below b (by omega), D.k1.below b h1, D.k2.below b h2, D.b.trans (b.mono (by omega)), D.e, D.h1, D.h2⟩
theorem DMi.belowB {Bd : Nat} (D : DMi w w0 wi p K1 K2 x0 x1 x2 x3 x4 y0 y1 y2 y3 y4 a0 a1 a2 a3 a4 b0 b1 b2 b3 b4) (b : Below Bd wi wj) (h1 : K1 < Bd) (h2 : K2 < Bd) : DMi w w0 wj p K1 K2 x0 x1 x2 x3 x4 y0 y1 y2 y3 y4 a0 a1 a2 a3 a4 b0 b1 b2 b3 b4 :=
  have g1 := D.n1
  ⟨D.o.belowB b h1 h2, D.src.belowB b (by omega), D.lo, D.n1, D.n2⟩
theorem DMi.still (D : DMi w w0 wi p K1 K2 x0 x1 x2 x3 x4 y0 y1 y2 y3 y4 a0 a1 a2 a3 a4 b0 b1 b2 b3 b4) (b : Below wi.heap.size wi wj) : DMi w w0 wj p K1 K2 x0 x1 x2 x3 x4 y0 y1 y2 y3 y4 a0 a1 a2 a3 a4 b0 b1 b2 b3 b4 := D.belowB b D.o.k1.lt D.o.k2.lt
theorem DMi.next (D : DMi w w0 wi p K1 K2 x0 x1 x2 x3 x4 y0 y1 y2 y3 y4 a0 a1 a2 a3 a4 b0 b1 b2 b3 b4) (hs : Src 122 wj p) (g : wi.grownBy wj (some p)) : DMi w w0 wj p K1 K2 x0 x1 x2 x3 x4 y0 y1 y2 y3 y4 a0 a1 a2 a3 a4 b0 b1 b2 b3 b4 :=
  have e := D.o.e
  have g1 := D.n1
  have g2 := D.n2
  have g3 := D.lo
  ⟨⟨D.o.z1.grown g (by simp; omega), D.o.z2.grown g (by simp; omega), D.o.k1.grown g (by simp; omega), D.o.k2.grown g (by simp; omega), only_below D.o.b g D.o.b.size (fun k hk => by cases hk; omega), D.o.e, D.o.h1, D.o.h2⟩, hs, D.lo, D.n1, D.n2⟩
theorem DMo.fin1 (D : DMo w w0 wi K1 K2 x0 x1 x2 x3 x4 y0 y1 y2 y3 y4 a0 a1 a2 a3 a4 b0 b1 b2 b3 b4) (v0 v1 v2 v3 v4 : Int) : DMo w w0 (setFive wi w.heap.size v0 v1 v2 v3 v4) K1 K2 v0 v1 v2 v3 v4 y0 y1 y2 y3 y4 a0 a1 a2 a3 a4 b0 b1 b2 b3 b4 :=
  have g := grown_five wi w.heap.size v0 v1 v2 v3 v4
  have e := D.e
  have g1 := D.h1
  have g2 := D.h2
  ⟨D.z1.five v0 v1 v2 v3 v4, D.z2.grown g (by simp), D.k1.grown g (by simp; omega), D.k2.grown g (by simp; omega), D.b.trans (below_five (Nat.le_refl _) _ _ _ _ _), D.e, D.h1, D.h2⟩
theorem DMo.fin2 (D : DMo w w0 wi K1 K2 x0 x1 x2 x3 x4 y0 y1 y2 y3 y4 a0 a1 a2 a3 a4 b0 b1 b2 b3 b4) (v0 v1 v2 v3 v4 : Int) : DMo w w0 (setFive wi (w.heap.size + 1) v0 v1 v2 v3 v4) K1 K2 x0 x1 x2 x3 x4 v0 v1 v2 v3 v4 a0 a1 a2 a3 a4 b0 b1 b2 b3 b4 :=
  have g := grown_five wi (w.heap.size + 1) v0 v1 v2 v3 v4
  have e := D.e
  have g1 := D.h1
  have g2 := D.h2
  ⟨D.z1.grown g (by simp), D.z2.five v0 v1 v2 v3 v4, D.k1.grown g (by simp; omega), D.k2.grown g (by simp; omega), D.b.trans (below_five (Nat.le_succ _) _ _ _ _ _), D.e, D.h1, D.h2⟩
end
/-- What a draw of errors leaves. -/
def DrawnMiss (w : World) (e : Ending) (w' : World) : Prop :=
  ∃ (kind a0 a1 a2 a3 a4 b0 b1 b2 b3 b4 : Int) (ao : Option Addr) (cap : Nat) (es : List Int), e = .returned (.tuple #[.int .i64 kind, .agg #[.int .i64 a0, .int .i64 a1, .int .i64 a2, .int .i64 a3, .int .i64 a4], .agg #[.int .i64 b0, .int .i64 b1, .int .i64 b2, .int .i64 b3, .int .i64 b4], .slice ao es.length cap]) ∧ Rd w' ao es.length es ∧ es.length ≤ 100 ∧ Below w.heap.size w w'
/-- A list, with all its memory above block p. -/
def RdP (w : World) (p : Nat) (ao : Option Addr) (n : Nat) (es : List Int) : Prop := Rd w ao n es ∧ ∀ b off, ao = some ⟨b, off, none⟩ → p < b
theorem RdP.grown {w w' : World} {p n : Nat} {ao : Option Addr} {es : List Int} {g : Option Nat} (h : RdP w p ao n es) (hg : w.grownBy w' g) (hp : ∀ k, g = some k → k ≤ p) : RdP w' p ao n es :=
  ⟨h.1.only hg (fun b off e he => by have := h.2 b off e; have := hp b he; omega), h.2⟩
theorem RdP.of_own {E : Nat} {w : World} {p n cap : Nat} {ao : Option Addr} {es : List Int} (h : Own E w (p + 1) (.slice ao n cap) es) (hl : es.length = n) : RdP w p ao n es := by
  have h' := h
  obtain ⟨_, _, e, o, r⟩ := h.get
  cases e
  refine ⟨by rw [← hl]; exact r, fun b off e => ?_⟩
  have := (h'.block b (by rw [e]; rfl)).1
  omega
theorem Own.of_eight {E base : Nat} {w : World} (x0 x1 x2 x3 x4 x5 x6 x7 : Int) (hE : base ≤ w.heap.size) : Own E (w.alloc (.cells #[.int .i64 x0, .int .i64 x1, .int .i64 x2, .int .i64 x3, .int .i64 x4, .int .i64 x5, .int .i64 x6, .int .i64 x7] E)) base (.slice (some ⟨w.heap.size, 0, none⟩) 8 8) [x0, x1, x2, x3, x4, x5, x6, x7] :=
  ⟨by simp, .inr ⟨w.heap.size, 8, #[.int .i64 x0, .int .i64 x1, .int .i64 x2, .int .i64 x3, .int .i64 x4, .int .i64 x5, .int .i64 x6, .int .i64 x7], by simp, hE, heap_alloc_new w _, by simp, by unfold maxLen; omega, by simp, by simp⟩⟩
theorem own_rd8 {E base g n cap : Nat} {w : World} {xs : List Int} (h : Own E w base (.slice (some ⟨g, 0, none⟩) n cap) xs) : Rd w (some ⟨g, 0, none⟩) n xs := by
  obtain ⟨_, _, e, _, r⟩ := h.get
  cases e
  exact r
/-- What a region's edges tell of the operations that are done. -/
structure Dep (l : Array Bool) : Prop where
  e32 : fl l 3 = true → fl l 2 = true
  e43 : fl l 4 = true → fl l 3 = true
  e51 : fl l 5 = true → fl l 1 = true
  e54 : fl l 5 = true → fl l 4 = true
  e60 : fl l 6 = true → fl l 0 = true
  e65 : fl l 6 = true → fl l 5 = true
  e98 : fl l 9 = true → fl l 8 = true
theorem dep1 {l : Array Bool} {i x y : Nat} (ho : l.getD i true = false) (h : fl l x = true → fl l y = true) (hi : i = x → fl l y = true) : fl (l.setIfInBounds i true) x = true → fl (l.setIfInBounds i true) y = true := by
  intro hf
  rw [fl_set ho] at hf ⊢
  by_cases a : i = y
  · rw [if_pos a]
  · rw [if_neg a]
    by_cases b : i = x
    · exact hi b
    · rw [if_neg b] at hf; exact h hf
theorem Dep.set {l : Array Bool} {i : Nat} (h : Dep l) (ho : l.getD i true = false) (h32 : i = 3 → fl l 2 = true) (h43 : i = 4 → fl l 3 = true) (h51 : i = 5 → fl l 1 = true) (h54 : i = 5 → fl l 4 = true) (h60 : i = 6 → fl l 0 = true) (h65 : i = 6 → fl l 5 = true) (h98 : i = 9 → fl l 8 = true) : Dep (l.setIfInBounds i true) :=
  ⟨dep1 ho h.e32 h32, dep1 ho h.e43 h43, dep1 ho h.e51 h51, dep1 ho h.e54 h54, dep1 ho h.e60 h60, dep1 ho h.e65 h65, dep1 ho h.e98 h98⟩
theorem Dep.all8 {l : Array Bool} (h : Dep l) (d6 : fl l 6 = true) (d7 : fl l 7 = true) : ∀ j, j < 8 → fl l j = true := fun j hj => by
  have d5 := h.e65 d6
  have d4 := h.e54 d5
  have d3 := h.e43 d4
  rcases (show j = 0 ∨ j = 1 ∨ j = 2 ∨ j = 3 ∨ j = 4 ∨ j = 5 ∨ j = 6 ∨ j = 7 from by omega) with rfl | rfl | rfl | rfl | rfl | rfl | rfl | rfl
  · exact h.e60 d6
  · exact h.e51 d5
  · exact h.e32 d3
  all_goals assumption
theorem Dep.nine {l : Array Bool} (h : Dep l) (h8 : fl l 8 = false) : fl l 9 = false := by
  rcases h9 : fl l 9 with _ | _
  · rfl
  · rw [h.e98 h9] at h8; cases h8
theorem own_rdL {E base c : Nat} {w : World} {ao : Option Addr} {xs : List Int} (h : Own E w base (.slice ao xs.length c) xs) : Rd w ao xs.length xs := by
  obtain ⟨_, _, e, _, r⟩ := h.get
  cases e
  exact r
set_option linter.unusedSimpArgs false in
set_option linter.unusedVariables false in
set_option maxHeartbeats 16000000 in
set_option maxRecDepth 100000 in
theorem drawMissedErrors_any (ai : Option Addr) (n capi : Nat) (cs : List Int) (w : World) (hr : RdB w w.heap.size ai n cs) (hn : n ≤ 1048576) :
    Calls Try.prog 38 #[.slice ai n capi] w (DrawnMiss w) := by
  have hb0 : Below w.heap.size w ((w.alloc (.cells #[.int .i64 0, .int .i64 0, .int .i64 0, .int .i64 0, .int .i64 0] 33)).alloc (.cells #[.int .i64 0, .int .i64 0, .int .i64 0, .int .i64 0, .int .i64 0] 33)) := ((Below.refl _ _).alloc (Nat.le_refl _) _).alloc (by simp) _
  have hr0 := rdB_grow hr hb0
  have hz := state_new2 (Below.refl ((w.alloc (.cells #[.int .i64 0, .int .i64 0, .int .i64 0, .int .i64 0, .int .i64 0] 33)).alloc (.cells #[.int .i64 0, .int .i64 0, .int .i64 0, .int .i64 0, .int .i64 0] 33)).heap.size ((w.alloc (.cells #[.int .i64 0, .int .i64 0, .int .i64 0, .int .i64 0, .int .i64 0] 33)).alloc (.cells #[.int .i64 0, .int .i64 0, .int .i64 0, .int .i64 0, .int .i64 0] 33)))
  have e0 : ((w.alloc (.cells #[.int .i64 0, .int .i64 0, .int .i64 0, .int .i64 0, .int .i64 0] 33)).alloc (.cells #[.int .i64 0, .int .i64 0, .int .i64 0, .int .i64 0, .int .i64 0] 33)).heap.size = w.heap.size + 2 := by simp
  have HR := Lib.hid hr0; have HZ := Lib.hid hz; have E0 := Lib.hid e0; have B0 := Lib.hid hb0
  clear hr0 hr hz e0 hb0
  go_enter Try.func38, Try.ntmps38
  go_wp2_with fail
  generalize (w.alloc (.cells #[.int .i64 0, .int .i64 0, .int .i64 0, .int .i64 0, .int .i64 0] 33)).alloc (.cells #[.int .i64 0, .int .i64 0, .int .i64 0, .int .i64 0, .int .i64 0] 33) = w0 at HR HZ E0 B0 ⊢
  refine (from_any _ _ _ cs _ HR.out hn).mono ?_
  rintro e w1 ⟨p, rfl, hlo, hs1, hb1⟩
  have H1 : Hid (HeldS 2 122 w0 w1 p []) := HeldS.start hb1 hlo hs1
  clear hs1 hb1
  go_wp2_with fail
  refine (next_any _ _ _ H1.out.src (by omega)).mono ?_
  rintro e w2 ⟨x, rfl, x0, x1, -, hs2, g2⟩
  have H2 := Lib.hid (H1.out.next hs2 g2)
  replace x1 := x1 (by omega)
  clear hs2 g2 H1
  go_wp2_with fail
  refine (next_any _ _ _ H2.out.src (by omega)).mono ?_
  rintro e w3 ⟨y, rfl, y0, y1, -, hs3, g3⟩
  have H3 := Lib.hid (H2.out.next hs3 g3)
  replace y1 := y1 (by omega)
  have hq1 : IntKind.i64.wrap (y.tdiv 15) = y / 15 := by rw [Int.tdiv_eq_ediv_of_nonneg y0, IntKind.wrap_i64]; omega
  have hq2 : IntKind.i64.wrap (x - y / 15) = x - y / 15 := by rw [IntKind.wrap_i64]; omega
  clear hs3 g3 H2
  go_wp2_with fail
  clear hq1 hq2
  obtain ⟨kind, hkind⟩ : ∃ kind, kind = x - y / 15 := ⟨_, rfl⟩
  rw [← hkind]
  clear hkind x0 x1 y0 y1
  refine (drawStateDistance_any _ _ _ cs _ (rdB_grow HR.out H3.out.below) hn).mono ?_
  rintro e w4 ⟨a0, a1, a2, a3, a4, b0, b1, b2, b3, b4, rfl, b4⟩
  have H4 := Lib.hid (H3.out.still b4)
  clear b4 H3 HR
  go_upto_region 4 with fail
  have hn4 := state_new2 (Below.refl ((w4.alloc (.cells #[.int .i64 a0, .int .i64 a1, .int .i64 a2, .int .i64 a3, .int .i64 a4] 33)).alloc (.cells #[.int .i64 b0, .int .i64 b1, .int .i64 b2, .int .i64 b3, .int .i64 b4] 33)).heap.size ((w4.alloc (.cells #[.int .i64 a0, .int .i64 a1, .int .i64 a2, .int .i64 a3, .int .i64 a4] 33)).alloc (.cells #[.int .i64 b0, .int .i64 b1, .int .i64 b2, .int .i64 b3, .int .i64 b4] 33)))
  have hal : Below w4.heap.size w4 ((w4.alloc (.cells #[.int .i64 a0, .int .i64 a1, .int .i64 a2, .int .i64 a3, .int .i64 a4] 33)).alloc (.cells #[.int .i64 b0, .int .i64 b1, .int .i64 b2, .int .i64 b3, .int .i64 b4] 33)) := ((Below.refl _ _).alloc (Nat.le_refl _) _).alloc (by simp) _
  have H5 := H4.out.still hal
  have D5 : Hid (DMi w w0 ((w4.alloc (.cells #[.int .i64 a0, .int .i64 a1, .int .i64 a2, .int .i64 a3, .int .i64 a4] 33)).alloc (.cells #[.int .i64 b0, .int .i64 b1, .int .i64 b2, .int .i64 b3, .int .i64 b4] 33)) p w4.heap.size (w4.heap.size + 1) 0 0 0 0 0 0 0 0 0 0 a0 a1 a2 a3 a4 b0 b1 b2 b3 b4) := Lib.hid
    ⟨⟨HZ.out.1.below H5.below (by have := E0.out; omega), HZ.out.2.below H5.below (by have := E0.out; omega), hn4.1, hn4.2, B0.out.trans (H5.below.mono B0.out.size), E0.out, H4.out.below.size, by have := H4.out.below.size; omega⟩, H5.src, hlo, H4.out.src.lt, by have := H4.out.src.lt; omega⟩
  clear hn4 hal H5 H4 HZ E0 B0 hlo
  obtain ⟨K1, hK1⟩ : ∃ K1, K1 = w4.heap.size := ⟨_, rfl⟩
  obtain ⟨K2, hK2⟩ : ∃ K2, K2 = w4.heap.size + 1 := ⟨_, rfl⟩
  rw [← hK2, ← hK1] at D5 ⊢
  clear hK1 hK2
  generalize (w4.alloc (.cells #[.int .i64 a0, .int .i64 a1, .int .i64 a2, .int .i64 a3, .int .i64 a4] 33)).alloc (.cells #[.int .i64 b0, .int .i64 b1, .int .i64 b2, .int .i64 b3, .int .i64 b4] 33) = w5 at D5 ⊢
  go_wp2_with fail
  refine (next_any _ _ _ D5.out.src (by omega)).mono ?_
  rintro e w6 ⟨z, rfl, z0, z1, -, hs6, g6⟩
  have D6 := Lib.hid (D5.out.next hs6 g6)
  replace z1 := z1 (by omega)
  obtain ⟨z, rfl⟩ := Int.eq_ofNat_of_zero_le z0
  obtain ⟨N, hN⟩ : ∃ N, N = 32 + 8 * z := ⟨_, rfl⟩
  have hm1 : IntKind.i64.wrap (8 * (z : Int)) = 8 * (z : Int) := by rw [IntKind.wrap_i64]; omega
  have hm2 : IntKind.i64.wrap (32 + 8 * (z : Int)) = (N : Int) := by rw [IntKind.wrap_i64]; omega
  have hN1 : 32 ≤ N := by omega
  have hN2 : N ≤ 80 := by omega
  have hsz6 := D6.out.src.lt
  clear hs6 g6 D5 z0 hN
  go_wp2_with (at_make; refine make_cap _ rfl _ _ rfl (w6.heap.size) Try.underlying34 info64 _ _ _ _ N N rfl rfl (by first | omega | exact hm2) (by first | omega | exact hm2) (Nat.le_refl _) (by omega) (Nat.le_refl _) ?_; intro w7 o7 b7)
  have O7 := Lib.hid (o7.more (base' := p + 1) hsz6)
  have D7 := Lib.hid (D6.out.still b7)
  have hg7 := (o7.block _ rfl).1
  have hkk1 := D6.out.o.k1.lt
  have hkk2 := D6.out.o.k2.lt
  obtain ⟨g, hg⟩ : ∃ g, g = w6.heap.size := ⟨_, rfl⟩
  rw [← hg] at O7 hkk1 hkk2 ⊢
  clear o7 b7 D6 hm1 hm2 hg hg7 hsz6 z1
  refine (next_any _ _ _ D7.out.src (by omega)).mono ?_
  rintro e w8 ⟨u, rfl, u0, u1, -, hs8, g8⟩
  have D8 := Lib.hid (D7.out.next hs8 g8)
  have O8 := Lib.hid (O7.out.src g8 (Nat.lt_succ_self p))
  replace u1 := u1 (by omega)
  obtain ⟨u, rfl⟩ := Int.eq_ofNat_of_zero_le u0
  have hu : u ≤ 3 := by omega
  clear hs8 g8 D7 O7 u0 u1
  go_wp2
  go_loopw [11] (fun i wr => ∃ (k : Nat) (es : List Int), k ≤ 3 ∧ i = .int .i64 k ∧ es.length = N ∧ Own 2 wr (p + 1) (.slice (some ⟨g, 0, none⟩) N N) es ∧ DMi w w0 wr p K1 K2 0 0 0 0 0 0 0 0 0 0 a0 a1 a2 a3 a4 b0 b1 b2 b3 b4) (fun i _ => (intOf i).toNat)
  case atStart => exact ⟨u, List.replicate N 0, hu, rfl, by simp, O8.out, D8.out⟩
  case round =>
    clear O8 D8 hu
    obtain ⟨k, es, hk, rfl, hel, hown, hD⟩ := hrel
    have O9 := Lib.hid hown; have D9 := Lib.hid hD; clear hown hD
    by_cases hk0 : 0 < k
    · obtain ⟨k, rfl⟩ : ∃ j, k = j + 1 := ⟨k - 1, by omega⟩
      have hpos : (0 : Int) < ((k + 1 : Nat) : Int) := by omega
      have hdec : IntKind.i64.wrap (((k + 1 : Nat) : Int) - 1) = (k : Int) := by rw [IntKind.wrap_i64]; omega
      have hle : (N : Int) ≤ 9223372036854775807 := by omega
      go_wp2_with fail
      refine (next_any _ _ _ D9.out.src hle).mono ?_
      rintro e wa ⟨i, rfl, i0, i1, -, hsa, ga⟩
      have DA := Lib.hid (D9.out.next hsa ga)
      have OA := Lib.hid (O9.out.src ga (Nat.lt_succ_self p))
      replace i1 := i1 (by omega)
      obtain ⟨i, rfl⟩ := Int.eq_ofNat_of_zero_le i0
      have hi : i < N := by omega
      clear hsa ga D9 O9 i0 hle
      obtain ⟨hdst, hfz, hos, hbs⟩ := own_store OA.out hel hi 1
      have gp := (OA.out.block g rfl).1
      have DB := Lib.hid (DA.out.belowB (Bd := g) ((Below.refl g wa).setCell (p := ⟨g, i, none⟩) (Nat.le_refl _) (.int .i64 1)) hkk1 hkk2)
      have OB := Lib.hid hos
      obtain ⟨zz, hzz⟩ : ∃ zz, zz = es.getD i 0 := ⟨_, rfl⟩
      rw [← hzz] at hdst
      clear hzz hos hbs DA OA gp
      go_wp2
      go_roundw
      case rel => exact ⟨k, es.set i 1, by omega, by first | rfl | go_num, by rw [List.length_set]; exact hel, OB.out, DB.out⟩
      case measure => simp [intOf]
    · have hk1 : k = 0 := by omega
      subst hk1
      clear hk0 hk
      go_wp2_with fail
      refine (next_any _ _ _ D9.out.src (by omega)).mono ?_
      rintro e wa ⟨v, rfl, -, -, -, hsa, ga⟩
      have DA := Lib.hid (D9.out.next hsa ga)
      have OA := Lib.hid (O9.out.src ga (Nat.lt_succ_self p))
      clear hsa ga D9 O9
      go_upto_block 2 with fail
      go_cut [10] (fun s10 wx => ∃ wy, wy = wx ∧ ∃ ao nn cc es', s10 = .slice ao nn cc ∧ RdP wy p ao nn es' ∧ nn ≤ 100 ∧ es'.length = nn ∧ DMi w w0 wy p K1 K2 0 0 0 0 0 0 0 0 0 0 a0 a1 a2 a3 a4 b0 b1 b2 b3 b4)
      case first =>
        by_cases h0 : v = 0
        · subst h0
          have hle : (N : Int) ≤ 9223372036854775807 := by omega
          go_wp2_with fail
          refine (next_any _ _ _ DA.out.src hle).mono ?_
          rintro e wb ⟨j, rfl, j0, j1, -, hsb, gb⟩
          have DB := Lib.hid (DA.out.next hsb gb)
          have OB := Lib.hid (OA.out.src gb (Nat.lt_succ_self p))
          replace j1 := j1 (by omega)
          obtain ⟨j, rfl⟩ := Int.eq_ofNat_of_zero_le j0
          have hj : (j : Int) ≤ (N : Int) := by omega
          clear hsb gb j0
          go_wp2_with fail
          go_meet
          have rp := RdP.of_own OB.out hel
          exact ⟨_, rfl, _, j, N, es.take j, rfl, ⟨rd_first rp.1 (by omega), rp.2⟩, by omega, by rw [List.length_take]; omega, DB.out⟩
        have t0 : (v == 0) = false := by simp [h0]
        by_cases h1 : v = 1
        rotate_left
        · have t1 : (v == 1) = false := by simp [h1]
          go_wp2_with fail
          go_meet
          exact ⟨_, rfl, _, N, N, es, rfl, RdP.of_own OA.out hel, by omega, hel, DA.out⟩
        subst h1
        clear OA
        go_upto_region 13 with fail
        refine wp_region_any (by kernel_rfl) (wpAny_inv (fun l a w' => ∃ val : Nat → Value, a = ⟨#[.slice ai n capi, undef, .int .i64 0, .pointer (some ⟨w.heap.size, 0, none⟩), .pointer (some ⟨w.heap.size + 1, 0, none⟩), .slice none 0 0, .pointer (some ⟨p, 0, none⟩), .int .i64 kind, .pointer (some ⟨K1, 0, none⟩), .pointer (some ⟨K2, 0, none⟩), val 9, .int .i64 0, .slice ai n capi, .pointer (some ⟨p, 0, none⟩), .pointer (some ⟨p, 0, none⟩), .int .i64 x, .pointer (some ⟨p, 0, none⟩), .int .i64 y, .int .i64 (y / 15), .int .i64 kind, .tuple #[.agg #[.int .i64 a0, .int .i64 a1, .int .i64 a2, .int .i64 a3, .int .i64 a4], .agg #[.int .i64 b0, .int .i64 b1, .int .i64 b2, .int .i64 b3, .int .i64 b4]], .slice ai n capi, .tuple #[.agg #[.int .i64 a0, .int .i64 a1, .int .i64 a2, .int .i64 a3, .int .i64 a4], .agg #[.int .i64 b0, .int .i64 b1, .int .i64 b2, .int .i64 b3, .int .i64 b4]], .agg #[.int .i64 a0, .int .i64 a1, .int .i64 a2, .int .i64 a3, .int .i64 a4], .agg #[.int .i64 b0, .int .i64 b1, .int .i64 b2, .int .i64 b3, .int .i64 b4], .pointer (some ⟨p, 0, none⟩), .int .i64 (z : Int), .int .i64 (8 * (z : Int)), .int .i64 (N : Int), .slice (some ⟨g, 0, none⟩) N N, .pointer (some ⟨p, 0, none⟩), .int .i64 (u : Int), .int .i64 0, .bool false, u34, u35, u36, u37, u38, u39, u40, u41, .pointer (some ⟨p, 0, none⟩), .int .i64 1, .bool false, .bool false, undef, undef, undef, undef, undef, undef, .bool true, .bool true, val 0, val 1, val 2, val 3, val 4, val 5, val 6, val 7, val 8, undef, undef, undef, undef, undef, undef, undef, undef, undef, undef, undef], []⟩ ∧ MisI 2 wa.drew l w' val ∧ Dep l) ?_ ?_ _ _ _ _ (by decide) ?_)
        · rintro l a w' ⟨val, rfl, h, dep⟩ i hi K hK
          obtain ⟨hi1, ho, ha⟩ := ready_mem hi
          clear hi
          have hi2 : i < 10 := hi1
          clear hi1
          have hc : i = 0 ∨ i = 1 ∨ i = 2 ∨ i = 3 ∨ i = 4 ∨ i = 5 ∨ i = 6 ∨ i = 7 ∨ i = 8 ∨ i = 9 := by omega
          rcases hc with rfl | rfl | rfl | rfl | rfl | rfl | rfl | rfl | rfl | rfl
          · clear ha
            refine wpOp_of rfl rfl ?_
            have hsz := h.below.size
            refine op_make _ (.const (.int .i64 8)) (.const (.int .i64 8)) rfl Try.underlying34 info64 .i64 .i64 8 8 8 rfl rfl rfl rfl (by omega) ?_
            intro wm om bm
            first | exact hK _ _ ⟨put val 0 _, rfl, h.step (by omega) ho bm (show LitW 2 wa.drew _ _ 8 from ⟨_, _, rfl, om.more hsz, by simp⟩), dep.set ho (fun e => absurd e (by decide)) (fun e => absurd e (by decide)) (fun e => absurd e (by decide)) (fun e => absurd e (by decide)) (fun e => absurd e (by decide)) (fun e => absurd e (by decide)) (fun e => absurd e (by decide))⟩ | exact ⟨put val 0 _, rfl, h.step (by omega) ho bm (show LitW 2 wa.drew _ _ 8 from ⟨_, _, rfl, om.more hsz, by simp⟩), dep.set ho (fun e => absurd e (by decide)) (fun e => absurd e (by decide)) (fun e => absurd e (by decide)) (fun e => absurd e (by decide)) (fun e => absurd e (by decide)) (fun e => absurd e (by decide)) (fun e => absurd e (by decide))⟩ | exact ⟨put val 0 _, ⟨rfl, rfl, rfl, rfl, rfl, rfl, rfl, rfl, rfl, rfl⟩, h.step (by omega) ho bm (show LitW 2 wa.drew _ _ 8 from ⟨_, _, rfl, om.more hsz, by simp⟩), dep.set ho (fun e => absurd e (by decide)) (fun e => absurd e (by decide)) (fun e => absurd e (by decide)) (fun e => absurd e (by decide)) (fun e => absurd e (by decide)) (fun e => absurd e (by decide)) (fun e => absurd e (by decide))⟩
          · clear ha
            refine wpOp_of rfl rfl ?_
            have hsz := h.below.size
            go_wp2_with fail
            first | exact hK _ _ ⟨put val 1 _, rfl, h.step (by omega) ho ((Below.refl _ _).alloc (Nat.le_refl _) _) (show LitW 2 wa.drew _ _ 8 from ⟨_, _, rfl, Own.of_eight 0 0 0 0 0 0 0 1 hsz, rfl⟩), dep.set ho (fun e => absurd e (by decide)) (fun e => absurd e (by decide)) (fun e => absurd e (by decide)) (fun e => absurd e (by decide)) (fun e => absurd e (by decide)) (fun e => absurd e (by decide)) (fun e => absurd e (by decide))⟩ | exact ⟨put val 1 _, rfl, h.step (by omega) ho ((Below.refl _ _).alloc (Nat.le_refl _) _) (show LitW 2 wa.drew _ _ 8 from ⟨_, _, rfl, Own.of_eight 0 0 0 0 0 0 0 1 hsz, rfl⟩), dep.set ho (fun e => absurd e (by decide)) (fun e => absurd e (by decide)) (fun e => absurd e (by decide)) (fun e => absurd e (by decide)) (fun e => absurd e (by decide)) (fun e => absurd e (by decide)) (fun e => absurd e (by decide))⟩ | exact ⟨put val 1 _, ⟨rfl, rfl, rfl, rfl, rfl, rfl, rfl, rfl, rfl, rfl⟩, h.step (by omega) ho ((Below.refl _ _).alloc (Nat.le_refl _) _) (show LitW 2 wa.drew _ _ 8 from ⟨_, _, rfl, Own.of_eight 0 0 0 0 0 0 0 1 hsz, rfl⟩), dep.set ho (fun e => absurd e (by decide)) (fun e => absurd e (by decide)) (fun e => absurd e (by decide)) (fun e => absurd e (by decide)) (fun e => absurd e (by decide)) (fun e => absurd e (by decide)) (fun e => absurd e (by decide))⟩
          · clear ha
            refine wpOp_of rfl rfl ?_
            go_wp2_with fail
            refine (sStandardCrc_any _).mono ?_
            rintro e wc ⟨rfl, bb⟩
            go_wp2_with fail
            first | exact hK _ _ ⟨put val 2 _, rfl, h.step (by omega) ho bb (show _ = Value.agg #[.int .i64 24, .int .i64 6122955] from rfl), dep.set ho (fun e => absurd e (by decide)) (fun e => absurd e (by decide)) (fun e => absurd e (by decide)) (fun e => absurd e (by decide)) (fun e => absurd e (by decide)) (fun e => absurd e (by decide)) (fun e => absurd e (by decide))⟩ | exact ⟨put val 2 _, rfl, h.step (by omega) ho bb (show _ = Value.agg #[.int .i64 24, .int .i64 6122955] from rfl), dep.set ho (fun e => absurd e (by decide)) (fun e => absurd e (by decide)) (fun e => absurd e (by decide)) (fun e => absurd e (by decide)) (fun e => absurd e (by decide)) (fun e => absurd e (by decide)) (fun e => absurd e (by decide))⟩ | exact ⟨put val 2 _, ⟨rfl, rfl, rfl, rfl, rfl, rfl, rfl, rfl, rfl, rfl⟩, h.step (by omega) ho bb (show _ = Value.agg #[.int .i64 24, .int .i64 6122955] from rfl), dep.set ho (fun e => absurd e (by decide)) (fun e => absurd e (by decide)) (fun e => absurd e (by decide)) (fun e => absurd e (by decide)) (fun e => absurd e (by decide)) (fun e => absurd e (by decide)) (fun e => absurd e (by decide))⟩
          · have h80 := h.open8 (by omega) ho
            have d2 : fl l 2 = true := (by simp [Region.binds] at ha; first | exact ha | exact ha.1 | exact ha.2 | exact ha.1.1 | exact ha.1.2 | exact ha.2.1 | exact ha.2.2 | exact ha.2.2.1)
            clear ha
            refine wpOp_of rfl rfl ?_
            have e2 : val 2 = .agg #[.int .i64 24, .int .i64 6122955] := h.ok 2 (by omega) d2 (fun _ => h80)
            rw [e2]
            go_wp2_with fail
            first | exact hK _ _ ⟨put val 3 (.int .i64 6122955), (by rw [← e2]; rfl), h.step (by omega) ho (Below.refl _ _) (show _ = Value.int .i64 6122955 from rfl), dep.set ho (fun _ => d2) (fun e => absurd e (by decide)) (fun e => absurd e (by decide)) (fun e => absurd e (by decide)) (fun e => absurd e (by decide)) (fun e => absurd e (by decide)) (fun e => absurd e (by decide))⟩ | exact ⟨put val 3 (.int .i64 6122955), (by rw [← e2]; rfl), h.step (by omega) ho (Below.refl _ _) (show _ = Value.int .i64 6122955 from rfl), dep.set ho (fun _ => d2) (fun e => absurd e (by decide)) (fun e => absurd e (by decide)) (fun e => absurd e (by decide)) (fun e => absurd e (by decide)) (fun e => absurd e (by decide)) (fun e => absurd e (by decide))⟩ | exact ⟨put val 3 (.int .i64 6122955), (by rw [← e2]; rfl), h.step (by omega) ho (Below.refl _ _) (show _ = Value.int .i64 6122955 from rfl), dep.set ho (fun _ => d2) (fun e => absurd e (by decide)) (fun e => absurd e (by decide)) (fun e => absurd e (by decide)) (fun e => absurd e (by decide)) (fun e => absurd e (by decide)) (fun e => absurd e (by decide))⟩
          · have h80 := h.open8 (by omega) ho
            have d3 : fl l 3 = true := (by simp [Region.binds] at ha; first | exact ha | exact ha.1 | exact ha.2 | exact ha.1.1 | exact ha.1.2 | exact ha.2.1 | exact ha.2.2 | exact ha.2.2.1)
            clear ha
            refine wpOp_of rfl rfl ?_
            have hsz := h.below.size
            have e3 : val 3 = .int .i64 6122955 := h.ok 3 (by omega) d3 (fun _ => h80)
            rw [e3]
            go_wp2_with fail
            refine (l01Append_any none 0 0 [] _ 24 _ Rd.nil_ (by omega) (by omega)).mono ?_
            rintro e wc mm
            obtain ⟨pp, cc, rfl, oo, -, bb⟩ := mm.get
            have hl : ([] ++ bitsOf 6122955 24 : List Int).length = 24 := by simp [bitsOf_len]
            generalize ([] ++ bitsOf 6122955 24 : List Int) = q4 at oo hl ⊢
            rw [hl] at oo ⊢
            go_wp2_with fail
            first | exact hK _ _ ⟨put val 4 (.slice pp 24 cc), (by rw [← e3]; rfl), h.step (by omega) ho bb (show LstW 2 wa.drew _ _ 24 from ⟨pp, cc, q4, rfl, oo.more hsz, hl⟩), dep.set ho (fun e => absurd e (by decide)) (fun _ => d3) (fun e => absurd e (by decide)) (fun e => absurd e (by decide)) (fun e => absurd e (by decide)) (fun e => absurd e (by decide)) (fun e => absurd e (by decide))⟩ | exact ⟨put val 4 (.slice pp 24 cc), (by rw [← e3]; rfl), h.step (by omega) ho bb (show LstW 2 wa.drew _ _ 24 from ⟨pp, cc, q4, rfl, oo.more hsz, hl⟩), dep.set ho (fun e => absurd e (by decide)) (fun _ => d3) (fun e => absurd e (by decide)) (fun e => absurd e (by decide)) (fun e => absurd e (by decide)) (fun e => absurd e (by decide)) (fun e => absurd e (by decide))⟩ | exact ⟨put val 4 (.slice pp 24 cc), (by rw [← e3]; rfl), h.step (by omega) ho bb (show LstW 2 wa.drew _ _ 24 from ⟨pp, cc, q4, ⟨rfl, rfl, rfl, rfl, rfl, rfl, rfl, rfl, rfl, rfl⟩, oo.more hsz, hl⟩), dep.set ho (fun e => absurd e (by decide)) (fun _ => d3) (fun e => absurd e (by decide)) (fun e => absurd e (by decide)) (fun e => absurd e (by decide)) (fun e => absurd e (by decide)) (fun e => absurd e (by decide))⟩
          · have h80 := h.open8 (by omega) ho
            have d1 : fl l 1 = true := (by simp [Region.binds] at ha; first | exact ha | exact ha.1 | exact ha.2 | exact ha.1.1 | exact ha.1.2 | exact ha.2.1 | exact ha.2.2 | exact ha.2.2.1)
            have d4 : fl l 4 = true := (by simp [Region.binds] at ha; first | exact ha | exact ha.1 | exact ha.2 | exact ha.1.1 | exact ha.1.2 | exact ha.2.1 | exact ha.2.2 | exact ha.2.2.1)
            clear ha
            refine wpOp_of rfl rfl ?_
            have hsz := h.below.size
            obtain ⟨g1, xs1, e1, o1, l1⟩ := h.ok 1 (by omega) d1 (fun _ => h80)
            obtain ⟨p2, c2, xs2, e2, o2, l2⟩ := h.ok 4 (by omega) d4 (fun _ => h80)
            rw [e2, ← l2] at o2
            have r2 := own_rdL o2
            obtain ⟨b2, f2, rfl, -⟩ := r2.here (by omega)
            rw [e1] at o1
            have r1 := own_rd8 o1
            refine op_full _ (.tmp 55) (.tmp 58) rfl Try.underlying34 info64 g1 8 xs1 e1 r1 _ 24 c2 xs2 e2 (l2 ▸ r2) (by omega) (by omega) ?_
            intro v' wm om bm
            obtain ⟨p3, c3, e3, o3, -⟩ := om.get
            first | exact hK _ _ ⟨put val 5 _, rfl, h.step (by omega) ho bm (show LstW 2 wa.drew _ _ 32 from ⟨p3, c3, xs1 ++ xs2, by rw [e3, List.length_append, l1, l2], om.more hsz, by rw [List.length_append, l1, l2]⟩), dep.set ho (fun e => absurd e (by decide)) (fun e => absurd e (by decide)) (fun _ => d1) (fun _ => d4) (fun e => absurd e (by decide)) (fun e => absurd e (by decide)) (fun e => absurd e (by decide))⟩ | exact ⟨put val 5 _, rfl, h.step (by omega) ho bm (show LstW 2 wa.drew _ _ 32 from ⟨p3, c3, xs1 ++ xs2, by rw [e3, List.length_append, l1, l2], om.more hsz, by rw [List.length_append, l1, l2]⟩), dep.set ho (fun e => absurd e (by decide)) (fun e => absurd e (by decide)) (fun _ => d1) (fun _ => d4) (fun e => absurd e (by decide)) (fun e => absurd e (by decide)) (fun e => absurd e (by decide))⟩ | exact ⟨put val 5 _, ⟨rfl, rfl, rfl, rfl, rfl, rfl, rfl, rfl, rfl, rfl⟩, h.step (by omega) ho bm (show LstW 2 wa.drew _ _ 32 from ⟨p3, c3, xs1 ++ xs2, by rw [e3, List.length_append, l1, l2], om.more hsz, by rw [List.length_append, l1, l2]⟩), dep.set ho (fun e => absurd e (by decide)) (fun e => absurd e (by decide)) (fun _ => d1) (fun _ => d4) (fun e => absurd e (by decide)) (fun e => absurd e (by decide)) (fun e => absurd e (by decide))⟩
          · have h80 := h.open8 (by omega) ho
            have d0 : fl l 0 = true := (by simp [Region.binds] at ha; first | exact ha | exact ha.1 | exact ha.2 | exact ha.1.1 | exact ha.1.2 | exact ha.2.1 | exact ha.2.2 | exact ha.2.2.1)
            have d5 : fl l 5 = true := (by simp [Region.binds] at ha; first | exact ha | exact ha.1 | exact ha.2 | exact ha.1.1 | exact ha.1.2 | exact ha.2.1 | exact ha.2.2 | exact ha.2.2.1)
            clear ha
            refine wpOp_of rfl rfl ?_
            have hsz := h.below.size
            obtain ⟨g1, xs1, e1, o1, l1⟩ := h.ok 0 (by omega) d0 (fun _ => h80)
            obtain ⟨p2, c2, xs2, e2, o2, l2⟩ := h.ok 5 (by omega) d5 (fun _ => h80)
            rw [e2, ← l2] at o2
            have r2 := own_rdL o2
            obtain ⟨b2, f2, rfl, -⟩ := r2.here (by omega)
            rw [e1] at o1
            have r1 := own_rd8 o1
            refine op_full _ (.tmp 54) (.tmp 59) rfl Try.underlying34 info64 g1 8 xs1 e1 r1 _ 32 c2 xs2 e2 (l2 ▸ r2) (by omega) (by omega) ?_
            intro v' wm om bm
            obtain ⟨p3, c3, e3, o3, -⟩ := om.get
            first | exact hK _ _ ⟨put val 6 _, rfl, h.step (by omega) ho bm (show LstW 2 wa.drew _ _ 40 from ⟨p3, c3, xs1 ++ xs2, by rw [e3, List.length_append, l1, l2], om.more hsz, by rw [List.length_append, l1, l2]⟩), dep.set ho (fun e => absurd e (by decide)) (fun e => absurd e (by decide)) (fun e => absurd e (by decide)) (fun e => absurd e (by decide)) (fun _ => d0) (fun _ => d5) (fun e => absurd e (by decide))⟩ | exact ⟨put val 6 _, rfl, h.step (by omega) ho bm (show LstW 2 wa.drew _ _ 40 from ⟨p3, c3, xs1 ++ xs2, by rw [e3, List.length_append, l1, l2], om.more hsz, by rw [List.length_append, l1, l2]⟩), dep.set ho (fun e => absurd e (by decide)) (fun e => absurd e (by decide)) (fun e => absurd e (by decide)) (fun e => absurd e (by decide)) (fun _ => d0) (fun _ => d5) (fun e => absurd e (by decide))⟩ | exact ⟨put val 6 _, ⟨rfl, rfl, rfl, rfl, rfl, rfl, rfl, rfl, rfl, rfl⟩, h.step (by omega) ho bm (show LstW 2 wa.drew _ _ 40 from ⟨p3, c3, xs1 ++ xs2, by rw [e3, List.length_append, l1, l2], om.more hsz, by rw [List.length_append, l1, l2]⟩), dep.set ho (fun e => absurd e (by decide)) (fun e => absurd e (by decide)) (fun e => absurd e (by decide)) (fun e => absurd e (by decide)) (fun _ => d0) (fun _ => d5) (fun e => absurd e (by decide))⟩
          · clear ha
            refine wpOp_of rfl rfl ?_
            have hsz := h.below.size
            go_wp2_with fail
            first | exact hK _ _ ⟨put val 7 _, rfl, h.step (by omega) ho ((Below.refl _ _).alloc (Nat.le_refl _) _) (show LitW 2 wa.drew _ _ 8 from ⟨_, _, rfl, Own.of_eight 0 0 0 0 0 0 0 0 hsz, rfl⟩), dep.set ho (fun e => absurd e (by decide)) (fun e => absurd e (by decide)) (fun e => absurd e (by decide)) (fun e => absurd e (by decide)) (fun e => absurd e (by decide)) (fun e => absurd e (by decide)) (fun e => absurd e (by decide))⟩ | exact ⟨put val 7 _, rfl, h.step (by omega) ho ((Below.refl _ _).alloc (Nat.le_refl _) _) (show LitW 2 wa.drew _ _ 8 from ⟨_, _, rfl, Own.of_eight 0 0 0 0 0 0 0 0 hsz, rfl⟩), dep.set ho (fun e => absurd e (by decide)) (fun e => absurd e (by decide)) (fun e => absurd e (by decide)) (fun e => absurd e (by decide)) (fun e => absurd e (by decide)) (fun e => absurd e (by decide)) (fun e => absurd e (by decide))⟩ | exact ⟨put val 7 _, ⟨rfl, rfl, rfl, rfl, rfl, rfl, rfl, rfl, rfl, rfl⟩, h.step (by omega) ho ((Below.refl _ _).alloc (Nat.le_refl _) _) (show LitW 2 wa.drew _ _ 8 from ⟨_, _, rfl, Own.of_eight 0 0 0 0 0 0 0 0 hsz, rfl⟩), dep.set ho (fun e => absurd e (by decide)) (fun e => absurd e (by decide)) (fun e => absurd e (by decide)) (fun e => absurd e (by decide)) (fun e => absurd e (by decide)) (fun e => absurd e (by decide)) (fun e => absurd e (by decide))⟩
          · have d6 : fl l 6 = true := (by simp [Region.binds] at ha; first | exact ha | exact ha.1 | exact ha.2 | exact ha.1.1 | exact ha.1.2 | exact ha.2.1 | exact ha.2.2 | exact ha.2.2.1)
            have d7 : fl l 7 = true := (by simp [Region.binds] at ha; first | exact ha | exact ha.1 | exact ha.2 | exact ha.1.1 | exact ha.1.2 | exact ha.2.1 | exact ha.2.2 | exact ha.2.2.1)
            clear ha
            refine wpOp_of rfl rfl ?_
            have hsz := h.below.size
            have h80 := fl_not ho
            obtain ⟨p1, c1, xs1, e1, o1, l1⟩ := h.ok 6 (by omega) d6 (fun _ => h80)
            obtain ⟨g2, xs2, e2, o2, l2⟩ := h.ok 7 (by omega) d7 (fun _ => h80)
            rw [e2] at o2
            have r2 := own_rd8 o2
            refine op_list _ (.tmp 60) (.tmp 61) rfl wa.drew.heap.size Try.underlying34 info64 (val 6) xs1 rfl o1 ⟨g2, 0, none⟩ 8 8 xs2 e2 r2 (by omega) (by omega) hsz ?_
            intro v' wm om gm
            obtain ⟨p3, c3, e3, o3, -⟩ := om.get
            first | exact hK _ _ ⟨put val 8 _, rfl, h.last ho (dep.all8 d6 d7) (dep.nine h80) (only_below h.below gm hsz (fun k hk => (o1.block k hk).1)) (show LstW 2 wa.drew _ _ 48 from ⟨p3, c3, xs1 ++ xs2, by rw [e3, List.length_append, l1, l2], om, by rw [List.length_append, l1, l2]⟩), dep.set ho (fun e => absurd e (by decide)) (fun e => absurd e (by decide)) (fun e => absurd e (by decide)) (fun e => absurd e (by decide)) (fun e => absurd e (by decide)) (fun e => absurd e (by decide)) (fun e => absurd e (by decide))⟩ | exact ⟨put val 8 _, rfl, h.last ho (dep.all8 d6 d7) (dep.nine h80) (only_below h.below gm hsz (fun k hk => (o1.block k hk).1)) (show LstW 2 wa.drew _ _ 48 from ⟨p3, c3, xs1 ++ xs2, by rw [e3, List.length_append, l1, l2], om, by rw [List.length_append, l1, l2]⟩), dep.set ho (fun e => absurd e (by decide)) (fun e => absurd e (by decide)) (fun e => absurd e (by decide)) (fun e => absurd e (by decide)) (fun e => absurd e (by decide)) (fun e => absurd e (by decide)) (fun e => absurd e (by decide))⟩ | exact ⟨put val 8 _, ⟨rfl, rfl, rfl, rfl, rfl, rfl, rfl, rfl, rfl, rfl⟩, h.last ho (dep.all8 d6 d7) (dep.nine h80) (only_below h.below gm hsz (fun k hk => (o1.block k hk).1)) (show LstW 2 wa.drew _ _ 48 from ⟨p3, c3, xs1 ++ xs2, by rw [e3, List.length_append, l1, l2], om, by rw [List.length_append, l1, l2]⟩), dep.set ho (fun e => absurd e (by decide)) (fun e => absurd e (by decide)) (fun e => absurd e (by decide)) (fun e => absurd e (by decide)) (fun e => absurd e (by decide)) (fun e => absurd e (by decide)) (fun e => absurd e (by decide))⟩
          · have d8 : fl l 8 = true := (by simp [Region.binds] at ha; first | exact ha | exact ha.1 | exact ha.2 | exact ha.1.1 | exact ha.1.2 | exact ha.2.1 | exact ha.2.2 | exact ha.2.2.1)
            clear ha
            refine wpOp_of rfl rfl ?_
            have e8 := h.ok 8 (by omega) d8 (fun h' => absurd h' (by omega))
            go_wp2_with fail
            first | exact hK _ _ ⟨put val 9 _, rfl, h.fin ho e8, dep.set ho (fun e => absurd e (by decide)) (fun e => absurd e (by decide)) (fun e => absurd e (by decide)) (fun e => absurd e (by decide)) (fun e => absurd e (by decide)) (fun e => absurd e (by decide)) (fun _ => d8)⟩ | exact ⟨put val 9 _, rfl, h.fin ho e8, dep.set ho (fun e => absurd e (by decide)) (fun e => absurd e (by decide)) (fun e => absurd e (by decide)) (fun e => absurd e (by decide)) (fun e => absurd e (by decide)) (fun e => absurd e (by decide)) (fun _ => d8)⟩ | exact ⟨put val 9 _, ⟨rfl, rfl, rfl, rfl, rfl, rfl, rfl, rfl, rfl, rfl⟩, h.fin ho e8, dep.set ho (fun e => absurd e (by decide)) (fun e => absurd e (by decide)) (fun e => absurd e (by decide)) (fun e => absurd e (by decide)) (fun e => absurd e (by decide)) (fun e => absurd e (by decide)) (fun _ => d8)⟩
        · rintro l a w' ⟨val, rfl, h, -⟩ hrd
          have hall := ready_nil (by kernel_rfl) h.size hrd
          obtain ⟨ao3, c3, xs3, e3, o3, l3⟩ := h.ok 9 (by omega) (hall 9 (by decide)) (fun h' => absurd h' (by omega))
          clear hall hrd
          have DB := Lib.hid (DA.out.still (below_step ((Below.refl wa.heap.size wa).drew) (Nat.le_refl _) h.below))
          rw [e3] at o3 ⊢
          have rp := RdP.of_own (o3.more (show p + 1 ≤ wa.heap.size from DA.out.src.lt)) l3
          clear h
          go_wp2_with fail
          go_meet
          exact ⟨_, rfl, ao3, 48, c3, xs3, rfl, rp, by omega, l3, DB.out⟩
        · exact ⟨fun k => if k = 9 then .slice (some ⟨g, 0, none⟩) N N else undef, rfl, ⟨by simp, Below.refl _ _, fun j hj hf => absurd hf (by (rcases (show j = 0 ∨ j = 1 ∨ j = 2 ∨ j = 3 ∨ j = 4 ∨ j = 5 ∨ j = 6 ∨ j = 7 ∨ j = 8 ∨ j = 9 from by omega) with rfl | rfl | rfl | rfl | rfl | rfl | rfl | rfl | rfl | rfl) <;> decide), fun hf => absurd hf (by decide)⟩, ⟨fun hf => absurd hf (by decide), fun hf => absurd hf (by decide), fun hf => absurd hf (by decide), fun hf => absurd hf (by decide), fun hf => absurd hf (by decide), fun hf => absurd hf (by decide), fun hf => absurd hf (by decide)⟩⟩
      case rest =>
        obtain ⟨wy, rfl, ao, nn, cc, es', rfl, hrp, hnn, hel', hD⟩ := hcut
        clear DA OA hel
        have RP := Lib.hid hrp; have DB := Lib.hid hD; clear hrp hD
        go_wp2_with fail
        refine (next_any _ _ _ DB.out.src (by omega)).mono ?_
        rintro e wc ⟨f, rfl, -, -, -, hsc, gc⟩
        have DC := Lib.hid (DB.out.next hsc gc).o
        have RC := Lib.hid (RP.out.grown gc (fun k hk => by cases hk; exact Nat.le_refl _))
        have hlo2 := DB.out.lo
        clear hsc gc DB RP
        by_cases hf : f = 0
        · subst hf
          go_upto_region 15 with fail
          have DD := Lib.hid (DC.out.belowB (Below.drew (Below.refl _ _)) DC.out.k1.lt DC.out.k2.lt)
          have RD' := Lib.hid (RC.out.1.below (Below.drew (Below.refl wc.heap.size wc)))
          refine wp_region_held_drew (S := fun w' => (w'.cell? ⟨K1, 0, none⟩ = some (.int .i64 a0) ∧ w'.cell? ⟨K1, 1, none⟩ = some (.int .i64 a1) ∧ w'.cell? ⟨K1, 2, none⟩ = some (.int .i64 a2) ∧ w'.cell? ⟨K1, 3, none⟩ = some (.int .i64 a3) ∧ w'.cell? ⟨K1, 4, none⟩ = some (.int .i64 a4)) ∧ (w'.cell? ⟨K2, 0, none⟩ = some (.int .i64 b0) ∧ w'.cell? ⟨K2, 1, none⟩ = some (.int .i64 b1) ∧ w'.cell? ⟨K2, 2, none⟩ = some (.int .i64 b2) ∧ w'.cell? ⟨K2, 3, none⟩ = some (.int .i64 b3) ∧ w'.cell? ⟨K2, 4, none⟩ = some (.int .i64 b4))) (by kernel_rfl) (⟨state_cells DD.out.k1, state_cells DD.out.k2⟩) (fun hHeld => ?_)
          generalize wc.drew = wd at DD RD' hHeld ⊢
          refine wpAnyH_take (i := 0) (v := ?_) rfl (by kernel_rfl) (by kernel_rfl) (by kernel_rfl) (fun _ _ _ h => h) (Or.inl ⟨by rfl, ?_⟩) (by assumption) ?_
          rotate_left
          · (intro w hSw; (try dsimp only at hSw); go_simp; (try with_reducible rfl))
          try simp only [List.getElem_toArray, List.getElem_cons_succ, List.getElem_cons_zero, Act.put, List.setIfInBounds_toArray, List.set_cons_zero, List.set_cons_succ]
          refine wpAnyH_take (i := 1) (v := ?_) rfl (by kernel_rfl) (by kernel_rfl) (by kernel_rfl) (fun _ _ _ h => h) (Or.inl ⟨by rfl, ?_⟩) (by assumption) ?_
          rotate_left
          · (intro w hSw; (try dsimp only at hSw); go_simp; (try with_reducible rfl))
          try simp only [List.getElem_toArray, List.getElem_cons_succ, List.getElem_cons_zero, Act.put, List.setIfInBounds_toArray, List.set_cons_zero, List.set_cons_succ]
          refine wpAnyH_take (i := 2) (v := ?_) rfl (by kernel_rfl) (by kernel_rfl) (by kernel_rfl) (fun _ _ _ h => h) (Or.inl ⟨by rfl, ?_⟩) (by assumption) ?_
          rotate_left
          · (intro w hSw; (try dsimp only at hSw); go_simp; (try with_reducible rfl))
          try simp only [List.getElem_toArray, List.getElem_cons_succ, List.getElem_cons_zero, Act.put, List.setIfInBounds_toArray, List.set_cons_zero, List.set_cons_succ]
          refine wpAnyH_take (i := 3) (v := ?_) rfl (by kernel_rfl) (by kernel_rfl) (by kernel_rfl) (fun _ _ _ h => h) (Or.inl ⟨by rfl, ?_⟩) (by assumption) ?_
          rotate_left
          · (intro w hSw; (try dsimp only at hSw); go_simp; (try with_reducible rfl))
          try simp only [List.getElem_toArray, List.getElem_cons_succ, List.getElem_cons_zero, Act.put, List.setIfInBounds_toArray, List.set_cons_zero, List.set_cons_succ]
          refine wpAnyH_take (i := 4) (v := ?_) rfl (by kernel_rfl) (by kernel_rfl) (by kernel_rfl) (fun _ _ _ h => h) (Or.inl ⟨by rfl, ?_⟩) (by assumption) ?_
          rotate_left
          · (intro w hSw; (try dsimp only at hSw); go_simp; (try with_reducible rfl))
          try simp only [List.getElem_toArray, List.getElem_cons_succ, List.getElem_cons_zero, Act.put, List.setIfInBounds_toArray, List.set_cons_zero, List.set_cons_succ]
          have sc0 := DD.out.z1.c0
          have sf0 := DD.out.z1.f 0
          have sc1 := DD.out.z1.c1
          have sf1 := DD.out.z1.f 1
          have sc2 := DD.out.z1.c2
          have sf2 := DD.out.z1.f 2
          have sc3 := DD.out.z1.c3
          have sf3 := DD.out.z1.f 3
          have sc4 := DD.out.z1.c4
          have sf4 := DD.out.z1.f 4
          refine wpAnyH_ready (rs := [5]) (by kernel_rfl) (by simp) (AllReadyH.cons rfl (fun K' hK => ?_) AllReadyH.nil)
          go_simp
          clear sc0 sf0 sc1 sf1 sc2 sf2 sc3 sf3 sc4 sf4
          have DE := Lib.hid (DD.out.fin1 a0 a1 a2 a3 a4)
          have RE := Lib.hid (RD'.out.only (grown_five wd w.heap.size a0 a1 a2 a3 a4) (fun b off e he => by have := RC.out.2 b off e; have := DD.out.e; simp at he; omega))
          change K' _ (setFive wd w.heap.size a0 a1 a2 a3 a4)
          generalize setFive wd w.heap.size a0 a1 a2 a3 a4 = we at DE RE ⊢
          refine hK.out _ _ ?_ (fun hHeld => ?_)
          · exact ⟨state_cells DE.out.k1, state_cells DE.out.k2⟩
          clear hK K'
          try simp only [List.getElem_toArray, List.getElem_cons_succ, List.getElem_cons_zero, Act.put, List.setIfInBounds_toArray, List.set_cons_zero, List.set_cons_succ]
          have sc0 := DE.out.z2.c0
          have sf0 := DE.out.z2.f 0
          have sc1 := DE.out.z2.c1
          have sf1 := DE.out.z2.f 1
          have sc2 := DE.out.z2.c2
          have sf2 := DE.out.z2.f 2
          have sc3 := DE.out.z2.c3
          have sf3 := DE.out.z2.f 3
          have sc4 := DE.out.z2.c4
          have sf4 := DE.out.z2.f 4
          refine wpAnyH_ready (rs := [6]) (by kernel_rfl) (by simp) (AllReadyH.cons rfl (fun K' hK => ?_) AllReadyH.nil)
          go_simp
          clear sc0 sf0 sc1 sf1 sc2 sf2 sc3 sf3 sc4 sf4
          have DF := Lib.hid (DE.out.fin2 a0 a1 a2 a3 a4)
          have RF := Lib.hid (RE.out.only (grown_five we (w.heap.size + 1) a0 a1 a2 a3 a4) (fun b off e he => by have := RC.out.2 b off e; have := DD.out.e; simp at he; omega))
          change K' _ (setFive we (w.heap.size + 1) a0 a1 a2 a3 a4)
          generalize setFive we (w.heap.size + 1) a0 a1 a2 a3 a4 = wf at DF RF ⊢
          refine hK.out _ _ ?_ (fun hHeld => ?_)
          · exact ⟨state_cells DF.out.k1, state_cells DF.out.k2⟩
          clear hK K'
          try simp only [List.getElem_toArray, List.getElem_cons_succ, List.getElem_cons_zero, Act.put, List.setIfInBounds_toArray, List.set_cons_zero, List.set_cons_succ]
          refine wpAnyH_take (i := 7) (v := ?_) rfl (by kernel_rfl) (by kernel_rfl) (by kernel_rfl) (fun _ _ _ h => h) (Or.inl ⟨by rfl, ?_⟩) (by assumption) ?_
          rotate_left
          · (intro w hSw; (try dsimp only at hSw); go_simp; (try with_reducible rfl))
          try simp only [List.getElem_toArray, List.getElem_cons_succ, List.getElem_cons_zero, Act.put, List.setIfInBounds_toArray, List.set_cons_zero, List.set_cons_succ]
          refine wpAnyH_done (by kernel_rfl) ?_ _
          go_wp2_with fail
          subst hel'
          have e0 := DF.out.z1.c0
          have e1 := DF.out.z1.c1
          have e2 := DF.out.z1.c2
          have e3 := DF.out.z1.c3
          have e4 := DF.out.z1.c4
          have k0 := DF.out.z2.c0
          have k1 := DF.out.z2.c1
          have k2 := DF.out.z2.c2
          have k3 := DF.out.z2.c3
          have k4 := DF.out.z2.c4
          exact bodyPost_ret (v := .tuple #[.int .i64 kind, .agg #[.int .i64 a0, .int .i64 a1, .int .i64 a2, .int .i64 a3, .int .i64 a4], .agg #[.int .i64 a0, .int .i64 a1, .int .i64 a2, .int .i64 a3, .int .i64 a4], .slice ao es'.length cc]) (by simp [results, Try.results38, go_sem, e0, e1, e2, e3, e4, k0, k1, k2, k3, k4]) rfl ⟨_, _, _, _, _, _, _, _, _, _, _, _, _, es', rfl, RF.out, hnn, DF.out.b⟩
        · have t9 : (f == 0) = false := by simp [hf]
          clear hf
          go_upto_region 16 with fail
          have DD := Lib.hid (DC.out.belowB (Below.drew (Below.refl _ _)) DC.out.k1.lt DC.out.k2.lt)
          have RD' := Lib.hid (RC.out.1.below (Below.drew (Below.refl wc.heap.size wc)))
          refine wp_region_held_drew (S := fun w' => (w'.cell? ⟨K1, 0, none⟩ = some (.int .i64 a0) ∧ w'.cell? ⟨K1, 1, none⟩ = some (.int .i64 a1) ∧ w'.cell? ⟨K1, 2, none⟩ = some (.int .i64 a2) ∧ w'.cell? ⟨K1, 3, none⟩ = some (.int .i64 a3) ∧ w'.cell? ⟨K1, 4, none⟩ = some (.int .i64 a4)) ∧ (w'.cell? ⟨K2, 0, none⟩ = some (.int .i64 b0) ∧ w'.cell? ⟨K2, 1, none⟩ = some (.int .i64 b1) ∧ w'.cell? ⟨K2, 2, none⟩ = some (.int .i64 b2) ∧ w'.cell? ⟨K2, 3, none⟩ = some (.int .i64 b3) ∧ w'.cell? ⟨K2, 4, none⟩ = some (.int .i64 b4))) (by kernel_rfl) (⟨state_cells DD.out.k1, state_cells DD.out.k2⟩) (fun hHeld => ?_)
          generalize wc.drew = wd at DD RD' hHeld ⊢
          refine wpAnyH_take (i := 0) (v := ?_) rfl (by kernel_rfl) (by kernel_rfl) (by kernel_rfl) (fun _ _ _ h => h) (Or.inl ⟨by rfl, ?_⟩) (by assumption) ?_
          rotate_left
          · (intro w hSw; (try dsimp only at hSw); go_simp; (try with_reducible rfl))
          try simp only [List.getElem_toArray, List.getElem_cons_succ, List.getElem_cons_zero, Act.put, List.setIfInBounds_toArray, List.set_cons_zero, List.set_cons_succ]
          refine wpAnyH_take (i := 1) (v := ?_) rfl (by kernel_rfl) (by kernel_rfl) (by kernel_rfl) (fun _ _ _ h => h) (Or.inl ⟨by rfl, ?_⟩) (by assumption) ?_
          rotate_left
          · (intro w hSw; (try dsimp only at hSw); go_simp; (try with_reducible rfl))
          try simp only [List.getElem_toArray, List.getElem_cons_succ, List.getElem_cons_zero, Act.put, List.setIfInBounds_toArray, List.set_cons_zero, List.set_cons_succ]
          refine wpAnyH_take (i := 2) (v := ?_) rfl (by kernel_rfl) (by kernel_rfl) (by kernel_rfl) (fun _ _ _ h => h) (Or.inl ⟨by rfl, ?_⟩) (by assumption) ?_
          rotate_left
          · (intro w hSw; (try dsimp only at hSw); go_simp; (try with_reducible rfl))
          try simp only [List.getElem_toArray, List.getElem_cons_succ, List.getElem_cons_zero, Act.put, List.setIfInBounds_toArray, List.set_cons_zero, List.set_cons_succ]
          refine wpAnyH_take (i := 3) (v := ?_) rfl (by kernel_rfl) (by kernel_rfl) (by kernel_rfl) (fun _ _ _ h => h) (Or.inl ⟨by rfl, ?_⟩) (by assumption) ?_
          rotate_left
          · (intro w hSw; (try dsimp only at hSw); go_simp; (try with_reducible rfl))
          try simp only [List.getElem_toArray, List.getElem_cons_succ, List.getElem_cons_zero, Act.put, List.setIfInBounds_toArray, List.set_cons_zero, List.set_cons_succ]
          refine wpAnyH_take (i := 4) (v := ?_) rfl (by kernel_rfl) (by kernel_rfl) (by kernel_rfl) (fun _ _ _ h => h) (Or.inl ⟨by rfl, ?_⟩) (by assumption) ?_
          rotate_left
          · (intro w hSw; (try dsimp only at hSw); go_simp; (try with_reducible rfl))
          try simp only [List.getElem_toArray, List.getElem_cons_succ, List.getElem_cons_zero, Act.put, List.setIfInBounds_toArray, List.set_cons_zero, List.set_cons_succ]
          have sc0 := DD.out.z1.c0
          have sf0 := DD.out.z1.f 0
          have sc1 := DD.out.z1.c1
          have sf1 := DD.out.z1.f 1
          have sc2 := DD.out.z1.c2
          have sf2 := DD.out.z1.f 2
          have sc3 := DD.out.z1.c3
          have sf3 := DD.out.z1.f 3
          have sc4 := DD.out.z1.c4
          have sf4 := DD.out.z1.f 4
          refine wpAnyH_ready (rs := [5]) (by kernel_rfl) (by simp) (AllReadyH.cons rfl (fun K' hK => ?_) AllReadyH.nil)
          go_simp
          clear sc0 sf0 sc1 sf1 sc2 sf2 sc3 sf3 sc4 sf4
          have DE := Lib.hid (DD.out.fin1 a0 a1 a2 a3 a4)
          have RE := Lib.hid (RD'.out.only (grown_five wd w.heap.size a0 a1 a2 a3 a4) (fun b off e he => by have := RC.out.2 b off e; have := DD.out.e; simp at he; omega))
          change K' _ (setFive wd w.heap.size a0 a1 a2 a3 a4)
          generalize setFive wd w.heap.size a0 a1 a2 a3 a4 = we at DE RE ⊢
          refine hK.out _ _ ?_ (fun hHeld => ?_)
          · exact ⟨state_cells DE.out.k1, state_cells DE.out.k2⟩
          clear hK K'
          try simp only [List.getElem_toArray, List.getElem_cons_succ, List.getElem_cons_zero, Act.put, List.setIfInBounds_toArray, List.set_cons_zero, List.set_cons_succ]
          have sc0 := DE.out.z2.c0
          have sf0 := DE.out.z2.f 0
          have sc1 := DE.out.z2.c1
          have sf1 := DE.out.z2.f 1
          have sc2 := DE.out.z2.c2
          have sf2 := DE.out.z2.f 2
          have sc3 := DE.out.z2.c3
          have sf3 := DE.out.z2.f 3
          have sc4 := DE.out.z2.c4
          have sf4 := DE.out.z2.f 4
          refine wpAnyH_ready (rs := [6]) (by kernel_rfl) (by simp) (AllReadyH.cons rfl (fun K' hK => ?_) AllReadyH.nil)
          go_simp
          clear sc0 sf0 sc1 sf1 sc2 sf2 sc3 sf3 sc4 sf4
          have DF := Lib.hid (DE.out.fin2 b0 b1 b2 b3 b4)
          have RF := Lib.hid (RE.out.only (grown_five we (w.heap.size + 1) b0 b1 b2 b3 b4) (fun b off e he => by have := RC.out.2 b off e; have := DD.out.e; simp at he; omega))
          change K' _ (setFive we (w.heap.size + 1) b0 b1 b2 b3 b4)
          generalize setFive we (w.heap.size + 1) b0 b1 b2 b3 b4 = wf at DF RF ⊢
          refine hK.out _ _ ?_ (fun hHeld => ?_)
          · exact ⟨state_cells DF.out.k1, state_cells DF.out.k2⟩
          clear hK K'
          try simp only [List.getElem_toArray, List.getElem_cons_succ, List.getElem_cons_zero, Act.put, List.setIfInBounds_toArray, List.set_cons_zero, List.set_cons_succ]
          refine wpAnyH_take (i := 7) (v := ?_) rfl (by kernel_rfl) (by kernel_rfl) (by kernel_rfl) (fun _ _ _ h => h) (Or.inl ⟨by rfl, ?_⟩) (by assumption) ?_
          rotate_left
          · (intro w hSw; (try dsimp only at hSw); go_simp; (try with_reducible rfl))
          try simp only [List.getElem_toArray, List.getElem_cons_succ, List.getElem_cons_zero, Act.put, List.setIfInBounds_toArray, List.set_cons_zero, List.set_cons_succ]
          refine wpAnyH_done (by kernel_rfl) ?_ _
          go_wp2_with fail
          subst hel'
          have e0 := DF.out.z1.c0
          have e1 := DF.out.z1.c1
          have e2 := DF.out.z1.c2
          have e3 := DF.out.z1.c3
          have e4 := DF.out.z1.c4
          have k0 := DF.out.z2.c0
          have k1 := DF.out.z2.c1
          have k2 := DF.out.z2.c2
          have k3 := DF.out.z2.c3
          have k4 := DF.out.z2.c4
          exact bodyPost_ret (v := .tuple #[.int .i64 kind, .agg #[.int .i64 a0, .int .i64 a1, .int .i64 a2, .int .i64 a3, .int .i64 a4], .agg #[.int .i64 b0, .int .i64 b1, .int .i64 b2, .int .i64 b3, .int .i64 b4], .slice ao es'.length cc]) (by simp [results, Try.results38, go_sem, e0, e1, e2, e3, e4, k0, k1, k2, k3, k4]) rfl ⟨_, _, _, _, _, _, _, _, _, _, _, _, _, es', rfl, RF.out, hnn, DF.out.b⟩
end Go.Proofs.Ytdcalkobcdeclaa
