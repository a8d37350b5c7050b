/-
  A range over a function whose elements are known one by one: what the iterator promises ('SeqR'), and the statement's law. No program is named here.
-/
import Derived.RangeFuncNested
import Derived.RangeFuncBound
import Derived.RangeFuncCalls
import Derived.RangeFuncLeaves
import Derived.RangeFuncBox
import Derived.Shelf.Abstract
import Derived.Shelf.RegionOpen
import Derived.WalkKit
import Derived.OwnWalkIn
import Derived.TacticsInMore
import Derived.LoopNIn
import Derived.LoopIn
import Derived.Maps.AppendAt
import Derived.Test.YtckaknaeddiphaaBase
namespace Go.Proofs.Ytckaknaeddiphaa
open Go.RowKit

/-- Of what lay in W, all that M tells of lies in W' as it lay. -/
structure Keeps (M : Nat → Obj → Prop) (W W' : World) : Prop where
  size : W.heap.size ≤ W'.heap.size
  same : ∀ (k : Nat) (o : Obj), W.heap[k]? = some o → M k o → W'.heap[k]? = some o
section
variable {M : Nat → Obj → Prop} {A B C : World}
theorem Keeps.refl (W : World) : Keeps M W W := ⟨Nat.le_refl _, fun _ _ h _ => h⟩
theorem Keeps.trans (h : Keeps M A B) (k : Keeps M B C) : Keeps M A C := ⟨Nat.le_trans h.size k.size, fun i o hi ho => k.same i o (h.same i o hi ho) ho⟩
theorem Keeps.weaken {M' : Nat → Obj → Prop} (h : Keeps M A B) (hm : ∀ k o, M' k o → M k o) : Keeps M' A B := ⟨h.size, fun k o hk ho => h.same k o hk (hm k o ho)⟩
theorem Keeps.drew (W : World) : Keeps M W W.drew := ⟨Nat.le_refl _, fun _ _ h _ => h⟩
theorem Keeps.still (h : Below A.heap.size A B) : Keeps M A B := ⟨h.size, fun k _ hk _ => (h.block k (Array.getElem?_eq_some_iff.1 hk).1).trans hk⟩
theorem Keeps.of_grown {row : Option Nat} (hg : A.grownBy B row) (hr : ∀ j o, row = some j → A.heap[j]? = some o → ¬ M j o) : Keeps M A B :=
  ⟨hg.size, fun k o hk ho => (hg.block k (Array.getElem?_eq_some_iff.1 hk).1 (fun e => hr k o e.symm hk ho)).trans hk⟩
theorem Keeps.set {b : Nat} (W : World) (v : Value) (hb : ∀ o, ¬ M b o) : Keeps M W (W.setCell ⟨b, 0, none⟩ v) :=
  .of_grown (grownBy_setCell' W b v) (fun j o e _ => by cases e; exact hb o)
theorem Keeps.boxed {b t : Nat} {v : Value} (h : Keeps M A B) (hb : Boxed A b t v) (hm : M b (.cells #[v] t (0, 0))) : Boxed B b t v := h.same _ _ hb hm
end
theorem OwnFrom.more {β : Type} {b b' : Nat} {I : β → World → Prop} (h : OwnFrom b I) (hb : b ≤ b') : OwnFrom b' I := fun s W W' row hs hg hr => h s W W' row hs hg (fun r e => ⟨Nat.le_trans hb (hr r e).1, (hr r e).2⟩)
/-- A world behind which all that lay lies still keeps what abides. -/
theorem OwnFrom.still {β : Type} {b : Nat} {I : β → World → Prop} (h : OwnFrom b I) {s : β} {A B : World} (hs : I s A) (hb : Below A.heap.size A B) : I s B :=
  h s A B none hs ⟨hb.os, hb.tape, hb.output, hb.size, fun k hk _ => hb.block k hk⟩ (fun r e => by cases e)

theorem boxed_below {A B : World} {b t : Nat} {v : Value} (hb : Boxed A b t v) (h : Below A.heap.size A B) : Boxed B b t v := (h.block b hb.lt).trans hb
/-- No cells of type E. -/
def notE (E : Nat) : Obj → Bool
  | .cells _ t _ => t != E
  | _ => true
theorem notE_of_not {E : Nat} {o : Obj} (h : o.isCells = false) : notE E o = true := by cases o <;> simp_all [notE, Obj.isCells]
/-- What lay in w lies in W. -/
def Low (w W : World) : Prop := ∀ k, k < w.heap.size → W.heap[k]? = w.heap[k]?
theorem Low.of_below {w W : World} (h : Below w.heap.size w W) : Low w W := h.block
theorem Low.still {w A B : World} (h : Low w A) (hs : w.heap.size ≤ A.heap.size) (hb : Below A.heap.size A B) : Low w B := fun k hk => (hb.block k (by omega)).trans (h k hk)
theorem Low.keeps {M : Nat → Obj → Prop} {w A B : World} (h : Low w A) (hk : Keeps M A B) (hm : ∀ k o, k < w.heap.size → M k o) : Low w B := fun k hlt => by
  have h1 := h k hlt
  rw [Array.getElem?_eq_getElem hlt] at h1 ⊢
  exact hk.same k _ h1 (hm _ _ hlt)
theorem Low.rd {w W : World} {ao : Option Addr} {n : Nat} {xs : List Int} (h : Low w W) (hr : Rd w ao n xs) : Rd W ao n xs := hr.keep fun b _ hb => World.cell?_of_block (w := w) (h b hb)
theorem own_low {w : World} {β : Type} {b : Nat} (hb : w.heap.size ≤ b) : OwnFrom b (fun (_ : β) W => Low w W ∧ w.heap.size ≤ W.heap.size) := fun s A B row h hg hr =>
  ⟨fun k hk => (hg.block k (by have := h.2; omega) (fun e => by have := (hr k e.symm).1; omega)).trans (h.1 k hk), Nat.le_trans h.2 hg.size⟩
theorem own_boxed {β : Type} (B t : Nat) (v : Value) (b : Nat) : OwnFrom b (fun (_ : β) W => Boxed W B t v) := fun s X Y row h hg hr => h.kept hg (fun e => by
  obtain ⟨_, o, ho, hc⟩ := hr B e.symm
  rw [show X.heap[B]? = _ from h] at ho; cases ho; cases hc)

/-- The iterator hands over N elements, the k-th of which is some x with 'R k x', unless a round ends the loop. A round keeps what M tells of (and what is not its own record). -/
def SeqR {α : Type} (n : Nat) (P : Program) (g : Nat) (lb : Array Value) (encs : α → Array Value) (R : Nat → α → Prop) (M : Nat → Obj → Prop) (N : Nat) (w : World) : Prop :=
  ∀ (l : Nat) (J Jx : Nat → World → Prop) (W : World), Below w.heap.size w W → w.heap.size ≤ l → l < W.heap.size → OwnFrom W.heap.size J → OwnFrom W.heap.size Jx →
    (∀ k x W1, k < N → R k x → J k W1 → YieldAt Fence.wide (n - 1) P l (encs x) W1 fun e W' => Keeps (fun k o => k ≠ l ∧ M k o) W1 W' ∧
      ((e = .returned (.bool true) ∧ J (k + 1) W') ∨ (e = .returned (.bool false) ∧ Jx (k + 1) W'))) →
    J 0 W →
    CallsIn Fence.wide n P g (#[.func (.yield l) #[] #[]] ++ lb) W fun e W' => (∃ v, e = .returned v) ∧ (J N W' ∨ ∃ k, 1 ≤ k ∧ k ≤ N ∧ Jx k W')
/-- The ways in which a round may end. -/
def nextPost (M : Nat → Obj → Prop) (I : Nat → World → Prop) (Ix : Code → Nat → World → Prop) (k : Nat) (W : World) : Exit → Act → World → Prop
  | .normal, _, W' => Keeps M W W' ∧ I k W'
  | .ret, _, W' => Keeps M W W' ∧ Ix .ret k W'
  | .exit id, _, W' => Keeps M W W' ∧ Ix (.exit id) k W'
  | .goto t, _, W' => Keeps M W W' ∧ Ix (.goto t) k W'
  | .panic _, _, _ => False
  | .outgrown, _, _ => False
theorem grown_not {A B : World} {row : Option Nat} (hg : A.grownBy B row) {b k : Nat} (hr : ∀ r, row = some r → b ≤ r ∧ ∃ o : Obj, A.heap[r]? = some o ∧ o.isCells = false) (hk : k < b) {o : Obj} (h : A.heap[k]? = some o) : B.heap[k]? = some o :=
  (hg.block k (Array.getElem?_eq_some_iff.1 h).1 (fun e => by have := (hr k e.symm).1; omega)).trans h
/-- The loop's record, as it lies while the iterator is at work. -/
def recOf (fn : Nat) (tmps : Array Value) (ps : Array Tmp) (assign body : Code) (D : Nat) (st : LoopState) (pe : Option Code) : Loop := { state := st, pending := pe, fn, tmps, params := ps, assign, body, defers := D }
theorem wpIn_range {P : Program} {α : Type} {n : Nat} {g : Operand} {ps : Array Tmp} {assign body : Code} {Q : Exit → Act → World → Prop} {a : Act} {w : World}
    {gf : Nat} {lb : Array Value} (hg : a.eval g = .func (.func gf) #[] lb) (eg : ∀ args w, (callFunc gf args).run P w = .ok (.enter gf args) w)
    {encs : α → Array Value} {R : Nat → α → Prop} {M : Nat → Obj → Prop} {N : Nat} {w0 : World} (hseq : SeqR (n - 1) P gf lb encs R M N w0) (hb0 : Below w0.heap.size w0 w) (hM : ∀ k o, w.heap.size ≤ k → o.isCells = false → M k o) (hps : ∀ x, (encs x).size = ps.size)
    (I : Nat → World → Prop) (Ix : Code → Nat → World → Prop) (hI : OwnFrom w.heap.size I) (hIx : ∀ c, OwnFrom w.heap.size (Ix c)) (h0 : I 0 w)
    (Ax : Nat → α → Act → World → Prop) (hAx : ∀ k x a', OwnFrom w.heap.size (fun (_ : Unit) W => Ax k x a' W))
    (hassign : ∀ (l k : Nat) (x : α) (W : World) (K : Act → World → Prop), k < N → R k x → I k W → (∀ a' W', Keeps M W W' → I k W' → Ax k x a' W' → K a' W') →
      assign.wpIn (Fence.wide.inRound l) (n - 1 - 1) P (Exit.then K (fun _ _ _ => False)) { tmps := (ps.zip (encs x)).foldl (fun t (p, v) => t.setIfInBounds p v) a.tmps, defers := [] } W)
    (hbody : ∀ (l k : Nat) (x : α) (a' : Act) (W : World), w.heap.size ≤ l → k < N → R k x → I k W → Ax k x a' W → body.wpIn (Fence.wide.inRound l) (n - 1 - 1) P (nextPost M I Ix (k + 1) W) a' W)
    (hdone : ∀ (D : Nat) (W : World), w.heap.size ≤ D → I N W → W.heap[D]? = some (.deferred (some [])) → Q .normal { a with defers := { target := .collected D, args := #[] } :: a.defers } W)
    (hstop : ∀ (D : Nat) (c : Code) (k : Nat) (W : World), w.heap.size ≤ D → 1 ≤ k → k ≤ N → Ix c k W → W.heap[D]? = some (.deferred (some [])) → c.wpIn Fence.wide n P Q { a with defers := { target := .collected D, args := #[] } :: a.defers } W) :
    (Code.rangeFunc g ps assign body).wpIn Fence.wide n P Q a w := by
  refine wpIn_rangeFunc fun fn hfn => ?_
  have hz : (w.alloc (.deferred (some []))).heap.size = w.heap.size + 1 := World.size_alloc _ _
  -- the two blocks of book-keeping
  obtain ⟨rc, hrc⟩ : ∃ rc : LoopState → Option Code → Loop, rc = recOf fn a.tmps ps assign body w.heap.size := ⟨_, rfl⟩
  have hpar : ∀ st pe, (rc st pe).params = ps := fun st pe => by rw [hrc]; rfl
  have hst : ∀ st pe, (rc st pe).state = st := fun st pe => by rw [hrc]; rfl
  have hpe : ∀ st pe, (rc st pe).pending = pe := fun st pe => by rw [hrc]; rfl
  have hset : ∀ st pe st' pe', ({ rc st pe with state := st', pending := pe' } : Loop) = rc st' pe' := fun st pe st' pe' => by rw [hrc]; rfl
  have hsetS : ∀ st pe st', ({ rc st pe with state := st' } : Loop) = rc st' pe := fun st pe st' => by rw [hrc]; rfl
  obtain ⟨W1, hW1⟩ : ∃ W1, (w.alloc (.deferred (some []))).alloc (.loop (rc .ready none)) = W1 := ⟨_, rfl⟩
  have hs1 : W1.heap.size = w.heap.size + 2 := by rw [← hW1, World.size_alloc, hz]
  have hD1 : W1.heap[w.heap.size]? = some (.deferred (some [])) := by rw [← hW1]; exact (Below.heap_alloc _ _ _ (by omega)).trans (World.alloc_heap_new w _)
  have hL1 : W1.heap[w.heap.size + 1]? = some (.loop (rc .ready none)) := by rw [← hW1, ← hz]; exact World.alloc_heap_new _ _
  have hI1 : I 0 W1 := by rw [← hW1]; exact hI.alloc _ (hI.alloc _ h0)
  have hB1 : Below w0.heap.size w0 W1 := by rw [← hW1]; exact hb0.trans ((((Below.refl _ w).alloc (Nat.le_refl _) _).alloc (by omega) _).mono hb0.size)
  refine ⟨w.heap.size + 1, [{ target := .collected w.heap.size, args := #[] }], W1, { target := .fn (.func gf) lb, args := #[.func (.yield (w.heap.size + 1)) #[] #[]] }, W1, gf, #[.func (.yield (w.heap.size + 1)) #[] #[]] ++ lb, W1, ?_, ?_, ?_, ?_, fun h => by simp [Fence.wide] at h, ?_⟩
  · rw [← hW1, hrc]; exact run_enterLoop_outer _ _ _ _ _
  · simp only [resolve, hg]; simp [go_sem]
  · exact fun _ _ => trivial
  · simp [invoke, go_sem, eg]
  refine (hseq (w.heap.size + 1) (fun k W => I k W ∧ W.heap[w.heap.size + 1]? = some (.loop (rc .ready none)) ∧ W.heap[w.heap.size]? = some (.deferred (some [])))
    (fun k W => ∃ c, Ix c k W ∧ W.heap[w.heap.size + 1]? = some (.loop (rc .done (some c))) ∧ W.heap[w.heap.size]? = some (.deferred (some []))) W1 hB1 (by have := hb0.size; omega) (by omega)
    (fun k A B row h hg' hr => ⟨hI k A B row h.1 hg' (fun r e => ⟨by have := (hr r e).1; omega, (hr r e).2⟩), grown_not hg' hr (by omega) h.2.1, grown_not hg' hr (by omega) h.2.2⟩)
    (fun k A B row h hg' hr => by obtain ⟨c, h1, h2, h3⟩ := h; exact ⟨c, hIx c k A B row h1 hg' (fun r e => ⟨by have := (hr r e).1; omega, (hr r e).2⟩), grown_not hg' hr (by omega) h2, grown_not hg' hr (by omega) h3⟩)
    ?_ ⟨hI1, hL1, hD1⟩).mono ?_
  · -- a round
    rintro k x W hk hx ⟨hi, hl, hd⟩
    have hy := run_yield (P := P) (args := encs x) hl (by rw [hpar]; exact hps x)
    refine ⟨_, _, _, _, hy, ?_⟩
    have e1 : (rc LoopState.ready none).fn = fn ∧ (rc LoopState.ready none).assign = assign ∧ (rc LoopState.ready none).body = body ∧ (rc LoopState.ready none).tmps = a.tmps := by rw [hrc]; exact ⟨rfl, rfl, rfl, rfl⟩
    rw [hpar, e1.1, e1.2.1, e1.2.2.1, e1.2.2.2]
    refine roundIn_of_wpIn trivial (hassign _ k x W _ hk hx hi ?_)
    intro a' Wa hka hia hax
    have hla := hka.same _ _ hl (hM _ _ (by omega) rfl)
    have hda := hka.same _ _ hd (hM _ _ (Nat.le_refl _) rfl)
    have hbr := run_beginRound (P := P) hla (hst _ _)
    rw [hsetS] at hbr
    refine ⟨_, hbr, ?_⟩
    have hla2 := World.putObj_heap_same (o := .loop (rc .busy none)) (Array.getElem?_eq_some_iff.1 hla).1
    have hda2 : (Wa.putObj (w.heap.size + 1) (.loop (rc .busy none))).heap[w.heap.size]? = some (.deferred (some [])) := (World.putObj_heap_other (by omega)).trans hda
    refine wpIn_mono (hbody _ k x a' _ (by omega) hk hx (hI.putObj _ hia (by omega) hla rfl) ((hAx k x a').putObj (s := ()) _ hax (by omega) hla rfl)) ?_
    have fin : ∀ (j : Option Code) (W3 : World), Keeps M (Wa.putObj (w.heap.size + 1) (.loop (rc .busy none))) W3 →
        (Instr.endRound (w.heap.size + 1) j).run P W3 = .ok (.bool j.isNone) (W3.putObj (w.heap.size + 1) (.loop (rc (if j.isNone then .ready else .done) j))) ∧
        W3.heap[w.heap.size + 1]? = some (.loop (rc .busy none)) ∧
        (W3.putObj (w.heap.size + 1) (.loop (rc (if j.isNone then .ready else .done) j))).heap[w.heap.size + 1]? = some (.loop (rc (if j.isNone then .ready else .done) j)) ∧
        (W3.putObj (w.heap.size + 1) (.loop (rc (if j.isNone then .ready else .done) j))).heap[w.heap.size]? = some (.deferred (some [])) ∧
        Keeps (fun k o => k ≠ w.heap.size + 1 ∧ M k o) W (W3.putObj (w.heap.size + 1) (.loop (rc (if j.isNone then .ready else .done) j))) := fun j W3 hk3 => by
      have hl3 := hk3.same _ _ hla2 (hM _ _ (by omega) rfl)
      have hr := run_endRound (P := P) j hl3
      rw [hset] at hr
      exact ⟨hr, hl3, World.putObj_heap_same (Array.getElem?_eq_some_iff.1 hl3).1, (World.putObj_heap_other (by omega)).trans (hk3.same _ _ hda2 (hM _ _ (Nat.le_refl _) rfl)),
        by rw [World.putObj_size]; have := hk3.size; rw [World.putObj_size] at this; exact Nat.le_trans hka.size this,
        fun k o hk hm => (World.putObj_heap_other hm.1).trans (hk3.same k o ((World.putObj_heap_other hm.1).trans (hka.same k o hk hm.2)) hm.2)⟩
    rintro e a3 W3 hp
    cases e with
    | normal =>
      obtain ⟨hk3, hi3⟩ := hp
      obtain ⟨hr, hl3, hl4, hd4, hk4⟩ := fin none W3 hk3
      exact ⟨_, _, hr, hk4, .inl ⟨rfl, hI.putObj _ hi3 (by omega) hl3 rfl, hl4, hd4⟩⟩
    | ret =>
      obtain ⟨hk3, hi3⟩ := hp
      obtain ⟨hr, hl3, hl4, hd4, hk4⟩ := fin (some .ret) W3 hk3
      exact ⟨_, _, hr, hk4, .inr ⟨rfl, .ret, (hIx _).putObj _ hi3 (by omega) hl3 rfl, hl4, hd4⟩⟩
    | exit id =>
      obtain ⟨hk3, hi3⟩ := hp
      obtain ⟨hr, hl3, hl4, hd4, hk4⟩ := fin (some (.exit id)) W3 hk3
      exact ⟨_, _, hr, hk4, .inr ⟨rfl, .exit id, (hIx _).putObj _ hi3 (by omega) hl3 rfl, hl4, hd4⟩⟩
    | goto t =>
      obtain ⟨hk3, hi3⟩ := hp
      obtain ⟨hr, hl3, hl4, hd4, hk4⟩ := fin (some (.goto t)) W3 hk3
      exact ⟨_, _, hr, hk4, .inr ⟨rfl, .goto t, (hIx _).putObj _ hi3 (by omega) hl3 rfl, hl4, hd4⟩⟩
    | panic ch => exact hp.elim
    | outgrown => exact hp.elim
  · -- behind the iterator
    rintro e W2 ⟨⟨v, rfl⟩, (⟨hi, hl, hd⟩ | ⟨k, hk1, hk2, c, hi, hl, hd⟩)⟩
    · have hr := run_endLoop (P := P) hl (by rw [hst]; simp)
      rw [hpe] at hr
      exact ⟨none, _, hr, hdone _ _ (Nat.le_refl _) (hI.putObj _ hi (by omega) hl rfl) ((World.putObj_heap_other (by omega)).trans hd)⟩
    · have hr := run_endLoop (P := P) hl (by rw [hst]; simp)
      rw [hpe] at hr
      exact ⟨some c, _, hr, hstop _ c k _ (Nat.le_refl _) hk1 hk2 ((hIx c).putObj _ hi (by omega) hl rfl) ((World.putObj_heap_other (by omega)).trans hd)⟩
theorem Rd.head9 {w : World} {ao : Option Addr} {n : Nat} {xs : List Int} (h : Rd w ao n xs) {a : Nat} (ha : a ≤ n) : Rd w ao a (xs.take a) :=
  ⟨by rw [List.length_take, h.len]; omega, fun h0 => by
    obtain ⟨b, off, e, hc⟩ := h.here (by omega)
    exact ⟨b, off, e, fun i hi => by rw [hc i (by omega)]; simp [List.getD, hi]⟩⟩
theorem Rd.tail9 {w : World} {ao : Option Addr} {n : Nat} {xs : List Int} (h : Rd w ao n xs) {a m : Nat} (ha : m + a = n) : Rd w (Option.map (fun x => x.add a) ao) m (xs.drop a) := by
  have h1 := h.slice (a := a) (k := m) (by omega)
  rwa [List.take_of_length_le (by rw [List.length_drop, h.len]; omega)] at h1
end Go.Proofs.Ytckaknaeddiphaa
