/-
  Contracts of the program's, the model's and the laws' functions, and plain mathematics, on which a proof of this claim stands (part K).
-/
import Derived.RangeFuncNested
import Derived.RangeFuncBound
import Derived.RangeFuncCalls
import Derived.RangeFuncLeaves
import Derived.RangeFuncBox
import Derived.Shelf.Abstract
import Derived.Shelf.RegionOpen
import Derived.WalkKit
import Derived.OwnWalkIn
import Derived.TacticsInMore
import Derived.LoopNIn
import Derived.LoopIn
import Derived.Maps.AppendAt
import Derived.Deep.RegionHeld3
import Derived.Deep.DeepCutAuto
import Derived.Deep.CutBlock
import Derived.Deep.CutRange
import Derived.Laws.CopyOwn
import Derived.Deep.RegionLaw
import Derived.Laws.Rows
import Derived.Laws.Tables
import Derived.Orders
import Derived.Test.YtljdkckoelgkbaaGreatPxZ
import Derived.Test.YtljdkckoelgkbaaGreatPxA
namespace Go.Proofs.YtljdkckoelgkbaaGreat
section
open Go.RowKit
theorem blockCount_any (n : Nat) (w : World) (hn : n ≤ 1048576) : Calls Tryz.prog 187 #[.int .i64 n] w fun e w' => e = .returned (.int .i64 (blocksOf n)) ∧ w = w' := by
  by_cases h0 : n = 0
  · subst h0
    go_enter Tryz.func187, Tryz.ntmps187
    go_wp2
    go_ret
    exact ⟨rfl, rfl⟩
  · obtain ⟨q, hq⟩ : ∃ q, (n + 27) / 28 = q := ⟨_, rfl⟩
    have hd2 : ((n : Int) + 28 - 1) / 28 = (q : Int) := by omega
    have h1 : (1 : Int) ≤ (q : Int) := by omega
    have he : blocksOf n = q := by unfold blocksOf; omega
    have HE := Lib.hid he; clear he hq
    go_enter Tryz.func187, Tryz.ntmps187
    go_wp2
    all_goals
      go_ret
      exact ⟨ret_int (by have := HE.out; omega), rfl⟩
theorem l09Fits_any (n : Int) (w : World) : Calls Tryz.prog 90 #[.int .i64 n] w fun e w' => e = .returned (.bool (inRange 0 868 n)) ∧ w = w' := by
  go_enter Tryz.func90, Tryz.ntmps90
  go_wp2_with fail
  refine (l01In_any _ _ _ _).mono ?_
  rintro e w' ⟨rfl, rfl⟩
  go_wp2
  go_ret
  exact ⟨rfl, rfl⟩
end

section
open Go.RowKit
structure Keeps (M : Nat → Obj → Prop) (W W' : World) : Prop where
  size : W.heap.size ≤ W'.heap.size
  same : ∀ (k : Nat) (o : Obj), W.heap[k]? = some o → M k o → W'.heap[k]? = some o
section
variable {M : Nat → Obj → Prop} {A B C : World}
theorem Keeps.refl (W : World) : Keeps M W W := ⟨Nat.le_refl _, fun _ _ h _ => h⟩
theorem Keeps.trans (h : Keeps M A B) (k : Keeps M B C) : Keeps M A C := ⟨Nat.le_trans h.size k.size, fun i o hi ho => k.same i o (h.same i o hi ho) ho⟩
theorem Keeps.drew (W : World) : Keeps M W W.drew := ⟨Nat.le_refl _, fun _ _ h _ => h⟩
theorem Keeps.still (h : Below A.heap.size A B) : Keeps M A B := ⟨h.size, fun k _ hk _ => (h.block k (Array.getElem?_eq_some_iff.1 hk).1).trans hk⟩
theorem Keeps.of_grown {row : Option Nat} (hg : A.grownBy B row) (hr : ∀ j o, row = some j → A.heap[j]? = some o → ¬ M j o) : Keeps M A B :=
  ⟨hg.size, fun k o hk ho => (hg.block k (Array.getElem?_eq_some_iff.1 hk).1 (fun e => hr k o e.symm hk ho)).trans hk⟩
theorem Keeps.set {b : Nat} (W : World) (v : Value) (hb : ∀ o, ¬ M b o) : Keeps M W (W.setCell ⟨b, 0, none⟩ v) :=
  .of_grown (grownBy_setCell' W b v) (fun j o e _ => by cases e; exact hb o)
theorem Keeps.boxed {b t : Nat} {v : Value} (h : Keeps M A B) (hb : Boxed A b t v) (hm : M b (.cells #[v] t (0, 0))) : Boxed B b t v := h.same _ _ hb hm
end
theorem OwnFrom.more {β : Type} {b b' : Nat} {I : β → World → Prop} (h : OwnFrom b I) (hb : b ≤ b') : OwnFrom b' I := fun s W W' row hs hg hr => h s W W' row hs hg (fun r e => ⟨Nat.le_trans hb (hr r e).1, (hr r e).2⟩)
theorem OwnFrom.still {β : Type} {b : Nat} {I : β → World → Prop} (h : OwnFrom b I) {s : β} {A B : World} (hs : I s A) (hb : Below A.heap.size A B) : I s B :=
  h s A B none hs ⟨hb.os, hb.tape, hb.output, hb.size, fun k hk _ => hb.block k hk⟩ (fun r e => by cases e)
theorem boxed_below {A B : World} {b t : Nat} {v : Value} (hb : Boxed A b t v) (h : Below A.heap.size A B) : Boxed B b t v := (h.block b hb.lt).trans hb
def notE (E : Nat) : Obj → Bool
  | .cells _ t _ => t != E
  | _ => true
theorem notE_of_not {E : Nat} {o : Obj} (h : o.isCells = false) : notE E o = true := by cases o <;> simp_all [notE, Obj.isCells]
def Low (w W : World) : Prop := ∀ k, k < w.heap.size → W.heap[k]? = w.heap[k]?
theorem Low.of_below {w W : World} (h : Below w.heap.size w W) : Low w W := h.block
theorem Low.still {w A B : World} (h : Low w A) (hs : w.heap.size ≤ A.heap.size) (hb : Below A.heap.size A B) : Low w B := fun k hk => (hb.block k (by omega)).trans (h k hk)
theorem Low.keeps {M : Nat → Obj → Prop} {w A B : World} (h : Low w A) (hk : Keeps M A B) (hm : ∀ k o, k < w.heap.size → M k o) : Low w B := fun k hlt => by
  have h1 := h k hlt
  rw [Array.getElem?_eq_getElem hlt] at h1 ⊢
  exact hk.same k _ h1 (hm _ _ hlt)
theorem Low.rd {w W : World} {ao : Option Addr} {n : Nat} {xs : List Int} (h : Low w W) (hr : Rd w ao n xs) : Rd W ao n xs := hr.keep fun b _ hb => World.cell?_of_block (w := w) (h b hb)
theorem own_low {w : World} {β : Type} {b : Nat} (hb : w.heap.size ≤ b) : OwnFrom b (fun (_ : β) W => Low w W ∧ w.heap.size ≤ W.heap.size) := fun s A B row h hg hr =>
  ⟨fun k hk => (hg.block k (by have := h.2; omega) (fun e => by have := (hr k e.symm).1; omega)).trans (h.1 k hk), Nat.le_trans h.2 hg.size⟩
theorem own_boxed {β : Type} (B t : Nat) (v : Value) (b : Nat) : OwnFrom b (fun (_ : β) W => Boxed W B t v) := fun s X Y row h hg hr => h.kept hg (fun e => by
  obtain ⟨_, o, ho, hc⟩ := hr B e.symm
  rw [show X.heap[B]? = _ from h] at ho; cases ho; cases hc)
def SeqR {α : Type} (n : Nat) (P : Program) (g : Nat) (lb : Array Value) (encs : α → Array Value) (R : Nat → α → Prop) (M : Nat → Obj → Prop) (N : Nat) (w : World) : Prop :=
  ∀ (l : Nat) (J Jx : Nat → World → Prop) (W : World), Below w.heap.size w W → w.heap.size ≤ l → l < W.heap.size → OwnFrom W.heap.size J → OwnFrom W.heap.size Jx →
    (∀ k x W1, k < N → R k x → J k W1 → YieldAt Fence.wide (n - 1) P l (encs x) W1 fun e W' => Keeps (fun k o => k ≠ l ∧ M k o) W1 W' ∧
      ((e = .returned (.bool true) ∧ J (k + 1) W') ∨ (e = .returned (.bool false) ∧ Jx (k + 1) W'))) →
    J 0 W →
    CallsIn Fence.wide n P g (#[.func (.yield l) #[] #[]] ++ lb) W fun e W' => (∃ v, e = .returned v) ∧ (J N W' ∨ ∃ k, 1 ≤ k ∧ k ≤ N ∧ Jx k W')
def nextPost (M : Nat → Obj → Prop) (I : Nat → World → Prop) (Ix : Code → Nat → World → Prop) (k : Nat) (W : World) : Exit → Act → World → Prop
  | .normal, _, W' => Keeps M W W' ∧ I k W'
  | .ret, _, W' => Keeps M W W' ∧ Ix .ret k W'
  | .exit id, _, W' => Keeps M W W' ∧ Ix (.exit id) k W'
  | .goto t, _, W' => Keeps M W W' ∧ Ix (.goto t) k W'
  | .panic _, _, _ => False
  | .outgrown, _, _ => False
theorem grown_not {A B : World} {row : Option Nat} (hg : A.grownBy B row) {b k : Nat} (hr : ∀ r, row = some r → b ≤ r ∧ ∃ o : Obj, A.heap[r]? = some o ∧ o.isCells = false) (hk : k < b) {o : Obj} (h : A.heap[k]? = some o) : B.heap[k]? = some o :=
  (hg.block k (Array.getElem?_eq_some_iff.1 h).1 (fun e => by have := (hr k e.symm).1; omega)).trans h
def recOf (fn : Nat) (tmps : Array Value) (ps : Array Tmp) (assign body : Code) (D : Nat) (st : LoopState) (pe : Option Code) : Loop := { state := st, pending := pe, fn, tmps, params := ps, assign, body, defers := D }
theorem wpIn_range {P : Program} {α : Type} {n : Nat} {g : Operand} {ps : Array Tmp} {assign body : Code} {Q : Exit → Act → World → Prop} {a : Act} {w : World}
    {gf : Nat} {lb : Array Value} (hg : a.eval g = .func (.func gf) #[] lb) (eg : ∀ args w, (callFunc gf args).run P w = .ok (.enter gf args) w)
    {encs : α → Array Value} {R : Nat → α → Prop} {M : Nat → Obj → Prop} {N : Nat} {w0 : World} (hseq : SeqR (n - 1) P gf lb encs R M N w0) (hb0 : Below w0.heap.size w0 w) (hM : ∀ k o, w.heap.size ≤ k → o.isCells = false → M k o) (hps : ∀ x, (encs x).size = ps.size)
    (I : Nat → World → Prop) (Ix : Code → Nat → World → Prop) (hI : OwnFrom w.heap.size I) (hIx : ∀ c, OwnFrom w.heap.size (Ix c)) (h0 : I 0 w)
    (Ax : Nat → α → Act → World → Prop) (hAx : ∀ k x a', OwnFrom w.heap.size (fun (_ : Unit) W => Ax k x a' W))
    (hassign : ∀ (l k : Nat) (x : α) (W : World) (K : Act → World → Prop), k < N → R k x → I k W → (∀ a' W', Keeps M W W' → I k W' → Ax k x a' W' → K a' W') →
      assign.wpIn (Fence.wide.inRound l) (n - 1 - 1) P (Exit.then K (fun _ _ _ => False)) { tmps := (ps.zip (encs x)).foldl (fun t (p, v) => t.setIfInBounds p v) a.tmps, defers := [] } W)
    (hbody : ∀ (l k : Nat) (x : α) (a' : Act) (W : World), w.heap.size ≤ l → k < N → R k x → I k W → Ax k x a' W → body.wpIn (Fence.wide.inRound l) (n - 1 - 1) P (nextPost M I Ix (k + 1) W) a' W)
    (hdone : ∀ (D : Nat) (W : World), w.heap.size ≤ D → I N W → W.heap[D]? = some (.deferred (some [])) → Q .normal { a with defers := { target := .collected D, args := #[] } :: a.defers } W)
    (hstop : ∀ (D : Nat) (c : Code) (k : Nat) (W : World), w.heap.size ≤ D → 1 ≤ k → k ≤ N → Ix c k W → W.heap[D]? = some (.deferred (some [])) → c.wpIn Fence.wide n P Q { a with defers := { target := .collected D, args := #[] } :: a.defers } W) :
    (Code.rangeFunc g ps assign body).wpIn Fence.wide n P Q a w := by
  refine wpIn_rangeFunc fun fn hfn => ?_
  have hz : (w.alloc (.deferred (some []))).heap.size = w.heap.size + 1 := World.size_alloc _ _
  -- the two blocks of book-keeping
  obtain ⟨rc, hrc⟩ : ∃ rc : LoopState → Option Code → Loop, rc = recOf fn a.tmps ps assign body w.heap.size := ⟨_, rfl⟩
  have hpar : ∀ st pe, (rc st pe).params = ps := fun st pe => by rw [hrc]; rfl
  have hst : ∀ st pe, (rc st pe).state = st := fun st pe => by rw [hrc]; rfl
  have hpe : ∀ st pe, (rc st pe).pending = pe := fun st pe => by rw [hrc]; rfl
  have hset : ∀ st pe st' pe', ({ rc st pe with state := st', pending := pe' } : Loop) = rc st' pe' := fun st pe st' pe' => by rw [hrc]; rfl
  have hsetS : ∀ st pe st', ({ rc st pe with state := st' } : Loop) = rc st' pe := fun st pe st' => by rw [hrc]; rfl
  obtain ⟨W1, hW1⟩ : ∃ W1, (w.alloc (.deferred (some []))).alloc (.loop (rc .ready none)) = W1 := ⟨_, rfl⟩
  have hs1 : W1.heap.size = w.heap.size + 2 := by rw [← hW1, World.size_alloc, hz]
  have hD1 : W1.heap[w.heap.size]? = some (.deferred (some [])) := by rw [← hW1]; exact (Below.heap_alloc _ _ _ (by omega)).trans (World.alloc_heap_new w _)
  have hL1 : W1.heap[w.heap.size + 1]? = some (.loop (rc .ready none)) := by rw [← hW1, ← hz]; exact World.alloc_heap_new _ _
  have hI1 : I 0 W1 := by rw [← hW1]; exact hI.alloc _ (hI.alloc _ h0)
  have hB1 : Below w0.heap.size w0 W1 := by rw [← hW1]; exact hb0.trans ((((Below.refl _ w).alloc (Nat.le_refl _) _).alloc (by omega) _).mono hb0.size)
  refine ⟨w.heap.size + 1, [{ target := .collected w.heap.size, args := #[] }], W1, { target := .fn (.func gf) lb, args := #[.func (.yield (w.heap.size + 1)) #[] #[]] }, W1, gf, #[.func (.yield (w.heap.size + 1)) #[] #[]] ++ lb, W1, ?_, ?_, ?_, ?_, fun h => by simp [Fence.wide] at h, ?_⟩
  · rw [← hW1, hrc]; exact run_enterLoop_outer _ _ _ _ _
  · simp only [resolve, hg]; simp [go_sem]
  · exact fun _ _ => trivial
  · simp [invoke, go_sem, eg]
  refine (hseq (w.heap.size + 1) (fun k W => I k W ∧ W.heap[w.heap.size + 1]? = some (.loop (rc .ready none)) ∧ W.heap[w.heap.size]? = some (.deferred (some [])))
    (fun k W => ∃ c, Ix c k W ∧ W.heap[w.heap.size + 1]? = some (.loop (rc .done (some c))) ∧ W.heap[w.heap.size]? = some (.deferred (some []))) W1 hB1 (by have := hb0.size; omega) (by omega)
    (fun k A B row h hg' hr => ⟨hI k A B row h.1 hg' (fun r e => ⟨by have := (hr r e).1; omega, (hr r e).2⟩), grown_not hg' hr (by omega) h.2.1, grown_not hg' hr (by omega) h.2.2⟩)
    (fun k A B row h hg' hr => by obtain ⟨c, h1, h2, h3⟩ := h; exact ⟨c, hIx c k A B row h1 hg' (fun r e => ⟨by have := (hr r e).1; omega, (hr r e).2⟩), grown_not hg' hr (by omega) h2, grown_not hg' hr (by omega) h3⟩)
    ?_ ⟨hI1, hL1, hD1⟩).mono ?_
  · -- a round
    rintro k x W hk hx ⟨hi, hl, hd⟩
    have hy := run_yield (P := P) (args := encs x) hl (by rw [hpar]; exact hps x)
    refine ⟨_, _, _, _, hy, ?_⟩
    have e1 : (rc LoopState.ready none).fn = fn ∧ (rc LoopState.ready none).assign = assign ∧ (rc LoopState.ready none).body = body ∧ (rc LoopState.ready none).tmps = a.tmps := by rw [hrc]; exact ⟨rfl, rfl, rfl, rfl⟩
    rw [hpar, e1.1, e1.2.1, e1.2.2.1, e1.2.2.2]
    refine roundIn_of_wpIn trivial (hassign _ k x W _ hk hx hi ?_)
    intro a' Wa hka hia hax
    have hla := hka.same _ _ hl (hM _ _ (by omega) rfl)
    have hda := hka.same _ _ hd (hM _ _ (Nat.le_refl _) rfl)
    have hbr := run_beginRound (P := P) hla (hst _ _)
    rw [hsetS] at hbr
    refine ⟨_, hbr, ?_⟩
    have hla2 := World.putObj_heap_same (o := .loop (rc .busy none)) (Array.getElem?_eq_some_iff.1 hla).1
    have hda2 : (Wa.putObj (w.heap.size + 1) (.loop (rc .busy none))).heap[w.heap.size]? = some (.deferred (some [])) := (World.putObj_heap_other (by omega)).trans hda
    refine wpIn_mono (hbody _ k x a' _ (by omega) hk hx (hI.putObj _ hia (by omega) hla rfl) ((hAx k x a').putObj (s := ()) _ hax (by omega) hla rfl)) ?_
    have fin : ∀ (j : Option Code) (W3 : World), Keeps M (Wa.putObj (w.heap.size + 1) (.loop (rc .busy none))) W3 →
        (Instr.endRound (w.heap.size + 1) j).run P W3 = .ok (.bool j.isNone) (W3.putObj (w.heap.size + 1) (.loop (rc (if j.isNone then .ready else .done) j))) ∧
        W3.heap[w.heap.size + 1]? = some (.loop (rc .busy none)) ∧
        (W3.putObj (w.heap.size + 1) (.loop (rc (if j.isNone then .ready else .done) j))).heap[w.heap.size + 1]? = some (.loop (rc (if j.isNone then .ready else .done) j)) ∧
        (W3.putObj (w.heap.size + 1) (.loop (rc (if j.isNone then .ready else .done) j))).heap[w.heap.size]? = some (.deferred (some [])) ∧
        Keeps (fun k o => k ≠ w.heap.size + 1 ∧ M k o) W (W3.putObj (w.heap.size + 1) (.loop (rc (if j.isNone then .ready else .done) j))) := fun j W3 hk3 => by
      have hl3 := hk3.same _ _ hla2 (hM _ _ (by omega) rfl)
      have hr := run_endRound (P := P) j hl3
      rw [hset] at hr
      exact ⟨hr, hl3, World.putObj_heap_same (Array.getElem?_eq_some_iff.1 hl3).1, (World.putObj_heap_other (by omega)).trans (hk3.same _ _ hda2 (hM _ _ (Nat.le_refl _) rfl)),
        by rw [World.putObj_size]; have := hk3.size; rw [World.putObj_size] at this; exact Nat.le_trans hka.size this,
        fun k o hk hm => (World.putObj_heap_other hm.1).trans (hk3.same k o ((World.putObj_heap_other hm.1).trans (hka.same k o hk hm.2)) hm.2)⟩
    rintro e a3 W3 hp
    cases e with
    | normal =>
      obtain ⟨hk3, hi3⟩ := hp
      obtain ⟨hr, hl3, hl4, hd4, hk4⟩ := fin none W3 hk3
      exact ⟨_, _, hr, hk4, .inl ⟨rfl, hI.putObj _ hi3 (by omega) hl3 rfl, hl4, hd4⟩⟩
    | ret =>
      obtain ⟨hk3, hi3⟩ := hp
      obtain ⟨hr, hl3, hl4, hd4, hk4⟩ := fin (some .ret) W3 hk3
      exact ⟨_, _, hr, hk4, .inr ⟨rfl, .ret, (hIx _).putObj _ hi3 (by omega) hl3 rfl, hl4, hd4⟩⟩
    | exit id =>
      obtain ⟨hk3, hi3⟩ := hp
      obtain ⟨hr, hl3, hl4, hd4, hk4⟩ := fin (some (.exit id)) W3 hk3
      exact ⟨_, _, hr, hk4, .inr ⟨rfl, .exit id, (hIx _).putObj _ hi3 (by omega) hl3 rfl, hl4, hd4⟩⟩
    | goto t =>
      obtain ⟨hk3, hi3⟩ := hp
      obtain ⟨hr, hl3, hl4, hd4, hk4⟩ := fin (some (.goto t)) W3 hk3
      exact ⟨_, _, hr, hk4, .inr ⟨rfl, .goto t, (hIx _).putObj _ hi3 (by omega) hl3 rfl, hl4, hd4⟩⟩
    | panic ch => exact hp.elim
    | outgrown => exact hp.elim
  · -- behind the iterator
    rintro e W2 ⟨⟨v, rfl⟩, (⟨hi, hl, hd⟩ | ⟨k, hk1, hk2, c, hi, hl, hd⟩)⟩
    · have hr := run_endLoop (P := P) hl (by rw [hst]; simp)
      rw [hpe] at hr
      exact ⟨none, _, hr, hdone _ _ (Nat.le_refl _) (hI.putObj _ hi (by omega) hl rfl) ((World.putObj_heap_other (by omega)).trans hd)⟩
    · have hr := run_endLoop (P := P) hl (by rw [hst]; simp)
      rw [hpe] at hr
      exact ⟨some c, _, hr, hstop _ c k _ (Nat.le_refl _) hk1 hk2 ((hIx c).putObj _ hi (by omega) hl rfl) ((World.putObj_heap_other (by omega)).trans hd)⟩
theorem Rd.head9 {w : World} {ao : Option Addr} {n : Nat} {xs : List Int} (h : Rd w ao n xs) {a : Nat} (ha : a ≤ n) : Rd w ao a (xs.take a) :=
  ⟨by rw [List.length_take, h.len]; omega, fun h0 => by
    obtain ⟨b, off, e, hc⟩ := h.here (by omega)
    exact ⟨b, off, e, fun i hi => by rw [hc i (by omega)]; simp [List.getD, hi]⟩⟩
theorem Rd.tail9 {w : World} {ao : Option Addr} {n : Nat} {xs : List Int} (h : Rd w ao n xs) {a m : Nat} (ha : m + a = n) : Rd w (Option.map (fun x => x.add a) ao) m (xs.drop a) := by
  have h1 := h.slice (a := a) (k := m) (by omega)
  rwa [List.take_of_length_le (by rw [List.length_drop, h.len]; omega)] at h1
end

section
open Go.RowKit Go.Shelf
attribute [local go_sem] Oper.semAt_some
theorem partsOf_any (ao : Option Addr) (n cap L : Nat) (w : World) : Calls Tryz.prog 189 #[.slice ao n cap, .int .i64 L] w fun e w' =>
    e = .returned (.func (.func 213) #[] #[.pointer (some ⟨w.heap.size, 0, none⟩), .pointer (some ⟨w.heap.size + 1, 0, none⟩)]) ∧ w' = (w.alloc (.cells #[.slice ao n cap] 35)).alloc (.cells #[.int .i64 L] 3) := by
  go_enter Tryz.func189, Tryz.ntmps189
  go_wp2
  go_ret
  exact ⟨rfl, rfl⟩
def partVal (w : World) (xs : List Int) (L k : Nat) (x : Nat × Option Addr × Nat × Nat) : Prop :=
  x.1 = k ∧ Rd w x.2.1 x.2.2.1 ((xs.drop (L * k)).take L) ∧ x.2.2.1 ≤ x.2.2.2 ∧ x.2.2.2 ≤ 9223372036854775807
def partEnc (x : Nat × Option Addr × Nat × Nat) : Array Value := #[.int .i64 (x.1 : Int), .slice x.2.1 x.2.2.1 x.2.2.2]
set_option maxRecDepth 100000 in
set_option maxHeartbeats 2000000 in
theorem parts_in (l b1 b2 L N n cap : Nat) (ao : Option Addr) (xs : List Int) (w : World) (hr : Rd w ao n xs) (hcap : n ≤ cap) (hcap2 : cap ≤ 9223372036854775807) (hn : n ≤ 1048576) (hL : 1 ≤ L) (hL2 : L ≤ 1000) (h1 : 1 ≤ N) (hN9 : N ≤ 1048577) (hN : ∀ k, k < N → (k + 1 < N ↔ L * (k + 1) < n))
    (M : Nat → Obj → Prop) (hM2 : M b2 (.cells #[.int .i64 (L : Int)] 3 (0, 0))) (hl : b2 ≠ l) (J Jx : Nat → World → Prop) (W : World) (c1 : Boxed W b1 35 (.slice ao n cap)) (c2 : Boxed W b2 3 (.int .i64 L))
    (hY : ∀ k x W1, k < N → partVal w xs L k x → J k W1 → YieldAt Fence.wide 7 Tryz.prog l (partEnc x) W1 fun e W' => Keeps (fun k o => k ≠ l ∧ M k o) W1 W' ∧
      ((e = .returned (.bool true) ∧ J (k + 1) W') ∨ (e = .returned (.bool false) ∧ Jx (k + 1) W'))) (h0 : J 0 W) :
    CallsIn Fence.wide 8 Tryz.prog 213 #[.func (.yield l) #[] #[], .pointer (some ⟨b1, 0, none⟩), .pointer (some ⟨b2, 0, none⟩)] W fun e W' => (∃ v, e = .returned v) ∧ (J N W' ∨ ∃ k, 1 ≤ k ∧ k ≤ N ∧ Jx k W') := by
  refine callsIn_of_wp Tryz.func213 rfl trivial ?_ rfl
  simp only [Tryz.ntmps213, List.size_toArray, List.length_cons, List.length_nil, Nat.reduceAdd, Nat.reduceSub, Array.replicate_succ, Array.replicate_zero, List.push_toArray, List.append_toArray, List.nil_append, List.cons_append]
  have d1 := c1.cell
  gi_wp2
  gi_loopw [4, 5] (fun rest i wr => ∃ k m c : Nat, ∃ a : Option Addr, k < N ∧ i = .int .i64 (k : Int) ∧ rest = .slice a m c ∧ Hid (Rd w a m (xs.drop (L * k)) ∧ m ≤ c ∧ c ≤ 9223372036854775807 ∧ m ≤ 1048576) ∧ J k wr ∧ Boxed wr b2 3 (.int .i64 L))
    (fun _ i _ => N - (intOf i).toNat)
  case atStart => exact ⟨0, n, cap, ao, by omega, rfl, rfl, ⟨by simpa using hr, hcap, hcap2, hn⟩, h0, c2⟩
  case round =>
    obtain ⟨k, m, c, a, hk, rfl, rfl, ⟨hrd, hmc, hc9, hm1⟩, hJ, c2⟩ := hrel
    have d2 := c2.cell
    have hml : xs.length - L * k = m := by have := hrd.len; rwa [List.length_drop] at this
    have hnl : xs.length = n := hr.len
    have hiff := hN k hk
    by_cases hlast : k + 1 < N
    · have hlt := hiff.1 hlast
      have hLk : L * (k + 1) = L * k + L := Nat.mul_succ L k
      obtain ⟨r, rfl⟩ : ∃ r, m = r + 1 + L := ⟨m - L - 1, by omega⟩
      obtain ⟨e, rfl⟩ : ∃ e, c = e + 1 + L := ⟨c - L - 1, by omega⟩
      obtain ⟨fn, tmps, assign, body, hy, hR⟩ := hY k (k, a, L, e + 1 + L) wr hk ⟨rfl, hrd.head9 (a := L) (by omega), by dsimp only; omega, by dsimp only; omega⟩ hJ
      dsimp only [partEnc] at hy
      have HT := Lib.hid (hrd.tail9 (a := L) (m := r + 1) rfl)
      rw [List.drop_drop, ← Nat.mul_succ] at HT
      have hb9 : Hid (e + 1 ≤ 9223372036854775807 ∧ r + 1 ≤ e + 1 ∧ r + 1 ≤ 1048576) := ⟨by omega, by omega, by omega⟩
      have hmin : min (L : Int) ((r + 1 + L : Nat) : Int) = (L : Int) := by omega
      have hr0 : (((r + 1 : Nat) : Int) == 0) = false := by simp; omega
      clear hrd hml hnl hiff hmc hm1
      gi_wp2
      refine hR.mono ?_
      rintro e W3 ⟨hkp, (⟨rfl, hJ3⟩ | ⟨rfl, hJx3⟩)⟩
      · gi_wp2
        go_roundw
        case rel => exact ⟨k + 1, _, _, _, hlast, by push_cast; rfl, rfl, ⟨HT.out, hb9.out.2.1, hb9.out.1, hb9.out.2.2⟩, hJ3, hkp.boxed c2 ⟨hl, hM2⟩⟩
        case measure => simp [intOf]; omega
      · gi_wp2
        refine bodyPost_ret (results_none rfl _ _ _) rfl ?_
        exact ⟨⟨_, rfl⟩, .inr ⟨k + 1, by omega, by omega, hJx3⟩⟩
    · have hlast2 : k + 1 = N := by omega
      have hm : m ≤ L := by
        have hLk : L * (k + 1) = L * k + L := Nat.mul_succ L k
        have := mt hiff.2 hlast
        omega
      have ht : (xs.drop (L * k)).take L = xs.drop (L * k) := List.take_of_length_le (by rw [List.length_drop]; omega)
      obtain ⟨fn, tmps, assign, body, hy, hR⟩ := hY k (k, a, m, c) wr hk ⟨rfl, by rw [ht]; exact hrd, by dsimp only; omega, by dsimp only; omega⟩ hJ
      dsimp only [partEnc] at hy
      clear hrd hml hnl hiff hm1 ht
      rcases Nat.lt_or_eq_of_le hm with hmL | rfl
      · have hmin : min (L : Int) (m : Int) = (m : Int) := by omega
        have hle : ¬ (L : Int) ≤ (m : Int) := by omega
        by_cases hcm : c = m
        · subst hcm
          gi_wp2
          all_goals
            refine hR.mono ?_
            rintro e W3 ⟨hkp, (⟨rfl, hJ3⟩ | ⟨rfl, hJx3⟩)⟩
            · gi_wp2
              refine bodyPost_ret (results_none rfl _ _ _) rfl ?_
              exact ⟨⟨_, rfl⟩, .inl (hlast2 ▸ hJ3)⟩
            · gi_wp2
              refine bodyPost_ret (results_none rfl _ _ _) rfl ?_
              exact ⟨⟨_, rfl⟩, .inr ⟨k + 1, by omega, by omega, hJx3⟩⟩
        · obtain ⟨e, rfl⟩ : ∃ e, c = e + 1 + m := ⟨c - m - 1, by omega⟩
          clear hcm
          gi_wp2
          all_goals
            refine hR.mono ?_
            rintro e W3 ⟨hkp, (⟨rfl, hJ3⟩ | ⟨rfl, hJx3⟩)⟩
            · gi_wp2
              refine bodyPost_ret (results_none rfl _ _ _) rfl ?_
              exact ⟨⟨_, rfl⟩, .inl (hlast2 ▸ hJ3)⟩
            · gi_wp2
              refine bodyPost_ret (results_none rfl _ _ _) rfl ?_
              exact ⟨⟨_, rfl⟩, .inr ⟨k + 1, by omega, by omega, hJx3⟩⟩
      · by_cases hcm : c = m
        · subst hcm
          gi_wp2
          all_goals
            refine hR.mono ?_
            rintro e W3 ⟨hkp, (⟨rfl, hJ3⟩ | ⟨rfl, hJx3⟩)⟩
            · gi_wp2
              refine bodyPost_ret (results_none rfl _ _ _) rfl ?_
              exact ⟨⟨_, rfl⟩, .inl (hlast2 ▸ hJ3)⟩
            · gi_wp2
              refine bodyPost_ret (results_none rfl _ _ _) rfl ?_
              exact ⟨⟨_, rfl⟩, .inr ⟨k + 1, by omega, by omega, hJx3⟩⟩
        · obtain ⟨e, rfl⟩ : ∃ e, c = e + 1 + m := ⟨c - m - 1, by omega⟩
          clear hcm
          gi_wp2
          all_goals
            refine hR.mono ?_
            rintro e W3 ⟨hkp, (⟨rfl, hJ3⟩ | ⟨rfl, hJx3⟩)⟩
            · gi_wp2
              refine bodyPost_ret (results_none rfl _ _ _) rfl ?_
              exact ⟨⟨_, rfl⟩, .inl (hlast2 ▸ hJ3)⟩
            · gi_wp2
              refine bodyPost_ret (results_none rfl _ _ _) rfl ?_
              exact ⟨⟨_, rfl⟩, .inr ⟨k + 1, by omega, by omega, hJx3⟩⟩
theorem parts_seq (b1 b2 L N n cap : Nat) (ao : Option Addr) (xs : List Int) (w w0 : World) (hr : Rd w ao n xs) (hcap : n ≤ cap) (hcap2 : cap ≤ 9223372036854775807) (hn : n ≤ 1048576) (hL : 1 ≤ L) (hL2 : L ≤ 1000) (h1 : 1 ≤ N) (hN9 : N ≤ 1048577) (hN : ∀ k, k < N → (k + 1 < N ↔ L * (k + 1) < n))
    (M : Nat → Obj → Prop) (hM2 : M b2 (.cells #[.int .i64 (L : Int)] 3 (0, 0))) (c1 : Boxed w0 b1 35 (.slice ao n cap)) (c2 : Boxed w0 b2 3 (.int .i64 L)) :
    SeqR 8 Tryz.prog 213 #[.pointer (some ⟨b1, 0, none⟩), .pointer (some ⟨b2, 0, none⟩)] partEnc (partVal w xs L) M N w0 := fun l J Jx W hW hl1 _ _ _ hY h0 =>
  parts_in l b1 b2 L N n cap ao xs w hr hcap hcap2 hn hL hL2 h1 hN9 hN M hM2 (by have := c2.lt; omega) J Jx W (boxed_below c1 hW) (boxed_below c2 hW) hY h0
end

section
open Go.RowKit
theorem std_crc : isCrc 24 6122955 = true := by
  have h := isCrc_put (W := 24) (g := stdG) (by omega) (by omega) (by decide)
  rwa [std_nat] at h
theorem reg_k {k : Nat} (h : k ≤ 1000) : ((regS ((k : Int) + 1)).toNat : Int) = (k : Int) + 1 := reg_id (by omega)
theorem crc_check {k : Nat} (hk : k ≤ 1000) {xs : List Int} (hb : isBytes xs = true) : crcOfBytes 24 6122955 ((k : Int) + 1) xs = (checkOf k xs, 0) := by
  have hs := seedIn_put (regS ((k : Int) + 1))
  rw [reg_k hk] at hs
  have hc : crcCode 24 6122955 ((k : Int) + 1) = 0 := by unfold crcCode; rw [std_crc, if_neg (by simp), if_neg (by rw [show ((24 : Nat) : Int) = 24 from rfl] at hs; rw [hs]; simp)]
  rw [coy_0 hc hb]
  rfl
theorem blockCheck_any (k : Nat) (ao : Option Addr) (cap : Nat) (xs : List Int) (w : World) (hk : k ≤ 1000) (hr : Rd w ao xs.length xs) (hb : isBytes xs = true) :
    Calls Tryz.prog 215 #[.int .i64 k, .slice ao xs.length cap] w (Makes 2 w (three (checkOf k xs))) := by
  have hc := crc_check hk hb
  have hn := (isBytes_iff.1 hb).1
  have hin := checkOf_in k xs
  generalize checkOf k xs = z at hc hin ⊢
  have HC := Lib.hid hc; have HR := Lib.hid hr
  have hcall := fun W h => crcOfBytes_any 24 6122955 ((k : Int) + 1) ao cap xs W h (by omega)
  rw [hc] at hcall
  have HI := Lib.hid hin
  clear hc hr hb hin
  go_enter Tryz.func215, Tryz.ntmps215
  go_wp2_with fail
  refine (standardCrc_any _).mono ?_
  rintro e w1 ⟨rfl, b1⟩
  go_wp2_with fail
  refine (hcall _ (HR.out.below b1)).mono ?_
  rintro e w2 ⟨rfl, b2⟩
  go_wp2_with fail
  refine (bytesOfCheck_any z _ HI.out).mono ?_
  rintro e w3 m3
  obtain ⟨p3, c3, rfl, o3, -, b3⟩ := m3.get
  have O3 := Lib.hid (o3.more (below_two b1 b2).size)
  have B3 := Lib.hid (below_two (below_two b1 b2) b3)
  clear m3 o3 b3 b1 b2 hcall
  go_wp2
  go_ret
  exact ⟨_, rfl, O3.out, B3.out⟩
theorem l09Check_any (k : Nat) (ao : Option Addr) (cap : Nat) (xs : List Int) (w : World) (hk : k ≤ 1000) (hr : Rd w ao xs.length xs) (hb : isBytes xs = true) :
    Calls Tryz.prog 148 #[.int .i64 k, .slice ao xs.length cap] w fun e w' => e = .returned (.int .i64 (checkOf k xs)) ∧ Below w.heap.size w w' := by
  have hn := (isBytes_iff.1 hb).1
  have hreg := reg_k hk
  have h8 := bits8_in xs
  have hl8 : (bitsOf8 xs).length = 8 * xs.length := flat_len xs
  obtain ⟨z, hz⟩ : ∃ z, regOf stdG (regS ((k : Int) + 1)) (bitsOf8 xs) = z := ⟨_, rfl⟩
  rw [show checkOf k xs = z from hz]
  have hbt := fun W h => l01Bits_any ao cap xs W h (by omega)
  change ∀ W, _ → Calls _ _ _ _ (Makes 2 W (bitsOf8 xs)) at hbt
  generalize bitsOf8 xs = b8 at h8 hl8 hbt hz
  have hf := fun p c W h => feedStd_any (regS ((k : Int) + 1)) p b8.length c b8 ((k : Int) + 1) W hreg h (by omega) h8
  rw [hz] at hf
  clear hz hreg h8 hb hl8
  have HR := Lib.hid hr; clear hr
  go_enter Tryz.func148, Tryz.ntmps148
  go_wp2_with fail
  refine (sStandardCrc_any _).mono ?_
  rintro e w1 ⟨rfl, b1⟩
  go_wp2_with fail
  refine (hbt _ (HR.out.below b1)).mono ?_
  rintro e w2 m2
  obtain ⟨p2, c2, rfl, -, r2, b2⟩ := m2.get
  have B2 := Lib.hid (below_two b1 b2)
  have R2 := Lib.hid r2
  clear m2 b1 b2 r2 hbt
  go_wp2_with fail
  refine (hf _ _ _ R2.out).mono ?_
  rintro e w3 ⟨rfl, b3⟩
  have B3 := Lib.hid (below_two B2.out b3)
  clear b3 hf
  go_wp2
  go_ret
  exact ⟨rfl, B3.out⟩
end

section
open Go.RowKit
def blk (xs : List Int) : List Int := xs ++ (List.replicate (33 - xs.length) 0 ++ [(xs.length : Int)])
theorem blk_len {xs : List Int} (h : xs.length ≤ 33) : (blk xs).length = 34 := by unfold blk; simp; omega
theorem blk_at {xs : List Int} {i : Nat} (h : i < xs.length) : (blk xs).getD i 0 = xs.getD i 0 := by
  unfold blk
  simp [List.getD, List.getElem?_append_left h]
theorem blk_size {xs : List Int} (h : xs.length ≤ 33) : (blk xs).getD 33 0 = xs.length := by
  unfold blk
  simp only [List.getD]
  rw [List.getElem?_append_right h, List.getElem?_append_right (by simp)]
  simp
theorem blk_add {xs ys : List Int} (h : xs.length + ys.length ≤ 33) : (splice (blk xs) xs.length ys).set 33 ((xs.length + ys.length : Nat) : Int) = blk (xs ++ ys) := by
  have e : splice (blk xs) xs.length ys = (xs ++ ys) ++ (List.replicate (33 - (xs.length + ys.length)) 0 ++ [(xs.length : Int)]) := by
    unfold splice blk
    rw [List.take_left' rfl, List.append_assoc]
    congr 2
    rw [List.drop_append]
    rw [List.drop_eq_nil_of_le (by omega), List.nil_append, Nat.add_sub_cancel_left, List.drop_append, List.length_replicate, List.drop_replicate]
    rw [show ys.length - (33 - xs.length) = 0 from by omega, List.drop_zero]
    congr 2
    omega
  rw [e]
  unfold blk
  rw [List.length_append]
  rw [List.set_append_right _ _ (by rw [List.length_append]; exact h), List.set_append_right _ _ (by rw [List.length_replicate, List.length_append]; omega)]
  congr 2
  rw [List.length_append, List.length_replicate, show 33 - (xs.length + ys.length) - (33 - (xs.length + ys.length)) = 0 from by omega]
  rfl
def BlkAt (w : World) (b : Nat) (xs : List Int) : Prop := ArrAt 164 w b (blk xs)
section
variable {b : Nat} {w w' : World} {xs : List Int}
theorem BlkAt.lt (h : BlkAt w b xs) : b < w.heap.size := ArrAt.lt h
theorem BlkAt.below {B : Nat} (h : BlkAt w b xs) (hb : Below B w w') (hlt : b < B) : BlkAt w' b xs := ArrAt.below h hb hlt
theorem BlkAt.size (h : BlkAt w b xs) (hl : xs.length ≤ 33) : w.cell? ⟨b, 33, none⟩ = some (.int .i64 (xs.length : Int)) := by
  have h1 := ArrAt.cell h (i := 33) (by rw [blk_len hl]; omega)
  rwa [blk_size hl] at h1
theorem BlkAt.rd (h : BlkAt w b xs) (hl : xs.length ≤ 33) : Rd w (some ⟨b, 0, none⟩) xs.length xs :=
  ⟨rfl, fun _ => ⟨b, 0, rfl, fun i hi => by
    have h1 := ArrAt.cell h (i := i) (by rw [blk_len hl]; omega)
    rw [blk_at hi] at h1
    rw [Nat.zero_add]
    exact h1⟩⟩
end
theorem size64 : (Tryz.prog.info? 2).map (·.size) = some 1 := by kernel_rfl
set_option linter.unusedSimpArgs false in
theorem list_any (b : Nat) (xs : List Int) (w : World) (h : BlkAt w b xs) (hl : xs.length ≤ 33) : Calls Tryz.prog 151 #[.pointer (some ⟨b, 0, none⟩)] w fun e w' => e = .returned (.slice (some ⟨b, 0, none⟩) xs.length 33) ∧ w' = w.drew := by
  have hc := h.size hl
  generalize xs.length = n at hc hl ⊢
  have hle : (n : Int) ≤ 33 := by omega
  clear h
  go_enter Tryz.func151, Tryz.ntmps151
  go_upto_region 1 with fail
  refine wp_region_held_drew (S := fun w' => w'.cell? ⟨b, 33, none⟩ = some (.int .i64 (n : Int))) (by kernel_rfl) (hc) (fun hHeld => ?_)
  refine wpAnyH_take (i := 0) (v := ?_) rfl (by kernel_rfl) (by kernel_rfl) (by kernel_rfl) (fun _ _ _ h => h) (Or.inl ⟨by rfl, ?_⟩) (by assumption) ?_
  rotate_left
  · (intro w hSw; (try dsimp only at hSw); go_simp; (try with_reducible rfl))
  try simp only [List.getElem_toArray, List.getElem_cons_succ, List.getElem_cons_zero, Act.put, List.setIfInBounds_toArray, List.set_cons_zero, List.set_cons_succ]
  refine wpAnyH_take (i := 1) (v := ?_) rfl (by kernel_rfl) (by kernel_rfl) (by kernel_rfl) (fun _ _ _ h => h) (Or.inl ⟨by rfl, ?_⟩) (by assumption) ?_
  rotate_left
  · (intro w hSw; (try dsimp only at hSw); go_simp; (try with_reducible rfl))
  try simp only [List.getElem_toArray, List.getElem_cons_succ, List.getElem_cons_zero, Act.put, List.setIfInBounds_toArray, List.set_cons_zero, List.set_cons_succ]
  refine wpAnyH_take (i := 2) (v := ?_) rfl (by kernel_rfl) (by kernel_rfl) (by kernel_rfl) (fun _ _ _ h => h) (Or.inl ⟨by rfl, ?_⟩) (by assumption) ?_
  rotate_left
  · (intro w hSw; (try dsimp only at hSw); go_simp; (try with_reducible rfl))
  try simp only [List.getElem_toArray, List.getElem_cons_succ, List.getElem_cons_zero, Act.put, List.setIfInBounds_toArray, List.set_cons_zero, List.set_cons_succ]
  refine wpAnyH_take (i := 3) (v := ?_) rfl (by kernel_rfl) (by kernel_rfl) (by kernel_rfl) (fun _ _ _ h => h) (Or.inl ⟨by rfl, ?_⟩) (by assumption) ?_
  rotate_left
  · (intro w hSw; (try dsimp only at hSw); go_simp; (try with_reducible rfl))
  try simp only [List.getElem_toArray, List.getElem_cons_succ, List.getElem_cons_zero, Act.put, List.setIfInBounds_toArray, List.set_cons_zero, List.set_cons_succ]
  refine wpAnyH_take (i := 4) (v := ?_) rfl (by kernel_rfl) (by kernel_rfl) (by kernel_rfl) (fun _ _ _ h => h) (Or.inl ⟨by rfl, ?_⟩) (by assumption) ?_
  rotate_left
  · (intro w hSw; (try dsimp only at hSw); go_simp; (try with_reducible rfl))
  try simp only [List.getElem_toArray, List.getElem_cons_succ, List.getElem_cons_zero, Act.put, List.setIfInBounds_toArray, List.set_cons_zero, List.set_cons_succ]
  refine wpAnyH_take (i := 5) (v := ?_) rfl (by kernel_rfl) (by kernel_rfl) (by kernel_rfl) (fun _ _ _ h => h) (Or.inl ⟨by rfl, ?_⟩) (by assumption) ?_
  rotate_left
  · (intro w hSw; (try dsimp only at hSw); go_simp; (try with_reducible rfl))
  try simp only [List.getElem_toArray, List.getElem_cons_succ, List.getElem_cons_zero, Act.put, List.setIfInBounds_toArray, List.set_cons_zero, List.set_cons_succ]
  refine wpAnyH_take (i := 6) (v := ?_) rfl (by kernel_rfl) (by kernel_rfl) (by kernel_rfl) (fun _ _ _ h => h) (Or.inl ⟨by rfl, ?_⟩) (by assumption) ?_
  rotate_left
  · (intro w hSw; (try dsimp only at hSw); go_simp; (try with_reducible rfl))
  try simp only [List.getElem_toArray, List.getElem_cons_succ, List.getElem_cons_zero, Act.put, List.setIfInBounds_toArray, List.set_cons_zero, List.set_cons_succ]
  refine wpAnyH_take (i := 7) (v := ?_) rfl (by kernel_rfl) (by kernel_rfl) (by kernel_rfl) (fun _ _ _ h => h) (Or.inl ⟨by rfl, ?_⟩) (by assumption) ?_
  rotate_left
  · (intro w hSw; (try dsimp only at hSw); go_simp; (try with_reducible rfl))
  try simp only [List.getElem_toArray, List.getElem_cons_succ, List.getElem_cons_zero, Act.put, List.setIfInBounds_toArray, List.set_cons_zero, List.set_cons_succ]
  refine wpAnyH_take (i := 8) (v := ?_) rfl (by kernel_rfl) (by kernel_rfl) (by kernel_rfl) (fun _ _ _ h => h) (Or.inl ⟨by rfl, ?_⟩) (by assumption) ?_
  rotate_left
  · (intro w hSw; (try dsimp only at hSw); go_simp; (try with_reducible rfl))
  try simp only [List.getElem_toArray, List.getElem_cons_succ, List.getElem_cons_zero, Act.put, List.setIfInBounds_toArray, List.set_cons_zero, List.set_cons_succ]
  refine wpAnyH_done (by kernel_rfl) ?_ _
  go_wp2
  go_ret
  exact ⟨rfl, rfl⟩
set_option linter.unusedSimpArgs false in
set_option maxHeartbeats 1000000 in
set_option maxRecDepth 100000 in
theorem add_any (b : Nat) (xs : List Int) (ao : Option Addr) (cap : Nat) (ys : List Int) (w : World) (h : BlkAt w b xs) (hr : Rd w ao ys.length ys) (hfit : xs.length + ys.length ≤ 33) (hx : xs.length ≤ 32) :
    Calls Tryz.prog 214 #[.pointer (some ⟨b, 0, none⟩), .slice ao ys.length cap] w fun e w' => e = .returned (.tuple #[]) ∧ BlkAt w' b (xs ++ ys) ∧ Below b w w' := by
  have hc := h.size (by omega)
  have hf : w.frozen? ⟨b, 33, none⟩ = false := ArrAt.frozen h 33
  have hbl := blk_len (xs := xs) (by omega)
  have hadd := blk_add (xs := xs) (ys := ys) (by omega)
  obtain ⟨ZS, hZS⟩ : ∃ ZS, blk xs = ZS := ⟨_, rfl⟩
  have HZ := Lib.hid (show w.heap[b]? = some (.cells (ZS.map (Value.int .i64)).toArray 164 (0, 0)) from by rw [← hZS]; exact h)
  rw [hZS] at hadd hbl
  have HADD := Lib.hid hadd
  have HR := Lib.hid hr
  obtain ⟨n, hn⟩ : ∃ n, xs.length = n := ⟨_, rfl⟩
  rw [hn] at hc hfit hx HADD
  have HM : Hid ((ys.map (Value.int .i64)).length = Nat.min ys.length (33 - n)) := by show _ = _; rw [List.length_map]; exact (Nat.min_eq_left (by omega)).symm
  have HF : Hid (n + (ys.map (Value.int .i64)).length ≤ (ZS.map (Value.int .i64)).length) := by show _ ≤ _; rw [List.length_map, List.length_map, hbl]; omega
  have hle : (n : Int) ≤ 33 := by omega
  have hne : ¬ (33 = n) := by omega
  have hzs : ZS.getD 33 0 = (n : Int) := by rw [← hZS, ← hn]; exact blk_size (by omega)
  have hsl : (splice ZS n ys).length = 34 := by rw [length_splice _ _ _ (by rw [hbl]; omega), hbl]
  have hs33 : (splice ZS n ys).getD 33 0 = (n : Int) := by
    rw [← hzs]
    unfold splice
    simp only [List.getD]
    rw [List.getElem?_append_right (by rw [List.length_take]; omega), List.getElem?_append_right (by rw [List.length_take]; omega), List.getElem?_drop]
    congr 2
    rw [List.length_take]; omega
  have HMAP : Hid (∀ w4 : World, Hid (w4.heap[b]? = some (.cells (splice (ZS.map (Value.int .i64)) n (ys.map (Value.int .i64))).toArray 164 (0, 0))) → ArrAt 164 w4 b (splice ZS n ys)) := fun w4 h4 => by
    have h5 := h4.out
    unfold ArrAt cellsI
    rw [h5]
    simp [splice]
  have HC4 : Hid (∀ w4 : World, ArrAt 164 w4 b (splice ZS n ys) → w4.cell? ⟨b, 33, none⟩ = some (.int .i64 (n : Int))) := fun w4 h4 => by
    have h5 := h4.cell (i := 33) (by rw [hsl]; omega)
    rwa [hs33] at h5
  have HSRC : Hid (0 < (ys.map (Value.int .i64)).length → some (⟨b, n, none⟩ : Addr) = some ⟨b, n, none⟩ ∧ ∃ ad, ao = some ad ∧ ∀ (j : Nat) (v : Value), (ys.map (Value.int .i64))[j]? = some v → w.drew.cell? (ad.add j) = some v) := fun h0 => by
    rw [List.length_map] at h0
    obtain ⟨b', off, rfl, hat⟩ := HR.out.here h0
    refine ⟨rfl, _, rfl, fun j v hv => ?_⟩
    rw [List.getElem?_map, Option.map_eq_some_iff] at hv
    obtain ⟨y, hy, rfl⟩ := hv
    have hj : j < ys.length := (List.getElem?_eq_some_iff.1 hy).1
    rw [Addr.add_lit]
    have h5 := hat j hj
    change w.cell? _ = _
    rw [h5]
    simp [List.getD, hy]
  clear h hr hZS hbl hn hadd hzs hsl hs33 HR
  have hwr : IntKind.i64.wrap ((n : Int) + (ys.length : Int)) = (n : Int) + (ys.length : Int) := by rw [IntKind.wrap_i64]; omega
  have HL := Lib.hid (show (ys.map (Value.int .i64)).length = ys.length from List.length_map _)
  generalize ys.length = m at *
  go_enter Tryz.func214, Tryz.ntmps214
  go_upto_region 0 with fail
  go_region_law (refine step_copy_splice rfl (.tmp 15) (.tmp 16) 35 35 rfl 2 Tryz.underlying35 size64 _ _ _ _ _ _ rfl rfl b n (ZS.map (Value.int .i64)) 164 HZ.out (ys.map (Value.int .i64)) HM.out HSRC.out HF.out (ints_oneCell _ _) b w (Below.refl _ _).drew (Nat.le_refl _) ?_; intro w4 hg4 hb4; have A4 := Lib.hid (HMAP.out w4 hg4); have hc4 := HC4.out w4 A4.out; have hf4 := A4.out.frozen 33; have B4 := Lib.hid hb4; rw [HL.out]; clear hg4 hb4)
  all_goals
    refine bodyPost_end (v := .tuple #[]) (results_none rfl _ _ _) rfl ⟨rfl, ?_, B4.out.setCell (p := ⟨b, 33, none⟩) (Nat.le_refl _) _⟩
    have h6 := A4.out.store 33 ((n : Int) + (m : Int))
    rw [show (splice ZS n ys).set 33 ((n : Int) + (m : Int)) = blk (xs ++ ys) from by rw [← HADD.out]; push_cast; rfl] at h6
    exact h6
end

section
open Go.RowKit
theorem rd_two9 {T : Nat} (x y : Int) (w : World) : Rd (w.alloc (.cells #[.int .i64 x, .int .i64 y] T)) (some ⟨w.heap.size, 0, none⟩) 2 [x, y] := by
  refine ⟨rfl, fun _ => ⟨w.heap.size, 0, rfl, fun i hi => ?_⟩⟩
  rw [World.cell?_alloc_at _ _ _ _ (by simp)]
  match i, hi with
  | 0, _ => rfl
  | 1, _ => rfl
def flag9 (c : Bool) : Int := if c = true then 1 else 0
theorem flag9_any (c : Bool) (w : World) : Calls Tryz.prog 139 #[.bool c] w fun e w' => e = .returned (.int .i64 (flag9 c)) ∧ w = w' := by
  cases c with
  | true =>
    go_enter Tryz.func139, Tryz.ntmps139
    go_wp2
    go_ret
    exact ⟨rfl, rfl⟩
  | false =>
    go_enter Tryz.func139, Tryz.ntmps139
    go_wp2
    go_ret
    exact ⟨rfl, rfl⟩
theorem infoBlk : (Tryz.prog.info? 164).map (·.size) = some 34 := by kernel_rfl
theorem infoBlk_of {xs : List Int} (h : xs.length ≤ 33) : (Tryz.prog.info? 164).map (·.size) = some (cellsI (blk xs)).size := by rw [cellsI_size, blk_len h]; exact infoBlk
theorem BlkAt.new0 (w : World) : BlkAt (w.alloc (.cells (cellsI (blk [])) 164)) w.heap.size [] := heap_alloc_new w _
theorem add_n (b : Nat) (xs : List Int) (ao : Option Addr) (n cap : Nat) (ys : List Int) (w : World) (h : BlkAt w b xs) (hr : Rd w ao n ys) (hfit : xs.length + n ≤ 33) (hx : xs.length ≤ 32) :
    Calls Tryz.prog 214 #[.pointer (some ⟨b, 0, none⟩), .slice ao n cap] w fun e w' => e = .returned (.tuple #[]) ∧ BlkAt w' b (xs ++ ys) ∧ Below b w w' := by
  have hl := hr.len
  subst hl
  exact add_any b xs ao cap ys w h hr hfit hx
def blkVal (xs : List Int) : Value := .agg (cellsI (blk xs))
def headB (k : Int) (part : List Int) (last : Bool) : List Int := [k, (part.length : Int) + 128 * flag9 last] ++ part
set_option linter.unusedSimpArgs false in
set_option maxHeartbeats 2000000 in
set_option maxRecDepth 100000 in
theorem newBlock_any (k : Nat) (last : Bool) (ao : Option Addr) (cap : Nat) (part : List Int) (w : World) (hr : Rd w ao part.length part) (hk : k ≤ 31) (hl : part.length ≤ 28) (hb : isBytes (headB k part last) = true) :
    Calls Tryz.prog 190 #[.int .i64 k, .slice ao part.length cap, .bool last] w fun e w' => e = .returned (blkVal (headB k part last ++ three (checkOf k (headB k part last)))) ∧ Below w.heap.size w w' := by
  obtain ⟨hd, hhd⟩ : ∃ hd, headB k part last = hd := ⟨_, rfl⟩
  have hhl : hd.length = 2 + part.length := by rw [← hhd]; unfold headB; simp; omega
  have hck := fun p c W h => blockCheck_any k p c hd W (by omega) h (by rw [← hhd]; exact hb)
  rw [hhd]
  have hf : 0 ≤ flag9 last ∧ flag9 last ≤ 1 := by unfold flag9; split <;> omega
  have hhe : ([] ++ [(k : Int), (part.length : Int) + 128 * flag9 last]) ++ part = hd := by rw [← hhd]; rfl
  have hfc := fun W => flag9_any last W
  generalize checkOf k hd = z at hck ⊢
  obtain ⟨th, hth⟩ : ∃ th, three z = th := ⟨_, rfl⟩
  have htl : th.length = 3 := by rw [← hth]; rfl
  rw [hth] at hck ⊢
  generalize flag9 last = fb at hf hhe hfc
  have HR := Lib.hid hr; have HCK := Lib.hid hck; have HHL := Lib.hid hhl; have HTL := Lib.hid htl; have HFC := Lib.hid hfc
  clear hr hck hhl htl hfc hhd hth hb
  obtain ⟨sz, hsz⟩ : ∃ sz, (part.length : Int) + 128 * fb = sz := ⟨_, rfl⟩
  rw [hsz] at hhe
  have HHE := Lib.hid hhe; clear hhe
  obtain ⟨pn, hpn⟩ : ∃ pn, part.length = pn := ⟨_, rfl⟩
  rw [hpn] at hsz HR HHL hl ⊢
  have HPN := Lib.hid hpn; clear hpn
  obtain ⟨Z, hZ⟩ : ∃ Z, Z = cellsI (blk []) := ⟨_, rfl⟩
  have hzz : (#[.int .i64 0, .int .i64 0, .int .i64 0, .int .i64 0, .int .i64 0, .int .i64 0, .int .i64 0, .int .i64 0, .int .i64 0, .int .i64 0, .int .i64 0, .int .i64 0, .int .i64 0, .int .i64 0, .int .i64 0, .int .i64 0, .int .i64 0, .int .i64 0, .int .i64 0, .int .i64 0, .int .i64 0, .int .i64 0, .int .i64 0, .int .i64 0, .int .i64 0, .int .i64 0, .int .i64 0, .int .i64 0, .int .i64 0, .int .i64 0, .int .i64 0, .int .i64 0, .int .i64 0, .int .i64 0] : Array Value) = Z := by rw [hZ]; rfl
  have HZ := Lib.hid hZ; clear hZ
  have hw1 : IntKind.i64.wrap (128 * fb) = 128 * fb := by rw [IntKind.wrap_i64]; omega
  go_enter Tryz.func190, Tryz.ntmps190
  go_wp2_with fail
  clear hzz
  refine (HFC.out _).mono ?_
  rintro e w1 ⟨rfl, rfl⟩
  have A0 : BlkAt ((w.alloc (.cells Z 164)).alloc (.cells Z 164)) w.heap.size [] := by
    rw [HZ.out]; exact (BlkAt.new0 w).below ((Below.refl _ _).alloc (Nat.le_refl _) _) (by simp)
  have A1 : BlkAt ((w.alloc (.cells Z 164)).alloc (.cells Z 164)) (w.heap.size + 1) [] := by
    have h := BlkAt.new0 (w.alloc (.cells Z 164))
    rw [World.size_alloc, ← HZ.out] at h; exact h
  have B0 : Below w.heap.size w ((w.alloc (.cells Z 164)).alloc (.cells Z 164)) := ((Below.refl _ _).alloc (Nat.le_refl _) _).alloc (by simp) _
  have S0 := Lib.hid (show w.heap.size + 2 ≤ ((w.alloc (.cells Z 164)).alloc (.cells Z 164)).heap.size from by simp)
  generalize (w.alloc (.cells Z 164)).alloc (.cells Z 164) = w2 at A0 A1 B0 S0 ⊢
  have A0 := Lib.hid A0; have A1 := Lib.hid A1; have B0 := Lib.hid B0
  go_wp2_with fail
  have D3 := Below.alloc (Below.refl w2.heap.size w2) (Nat.le_refl _) (.cells #[.int .i64 k, .int .i64 sz] 2)
  refine (add_n (w.heap.size + 1) [] _ 2 2 [(k : Int), sz] _ (A1.out.below D3 A1.out.lt) (rd_two9 _ _ _) (by simp) (by simp)).mono ?_
  rintro e w3 ⟨rfl, a3, b3⟩
  have hs3 : w.heap.size + 2 ≤ w3.heap.size := Nat.le_trans S0.out (Nat.le_trans D3.size b3.size)
  have B3 := Lib.hid ((B0.out.trans (D3.mono B0.out.size)).trans (b3.mono (Nat.le_succ _)))
  have A0 := Lib.hid ((A0.out.below D3 A0.out.lt).below b3 (Nat.lt_succ_self _))
  have A3 := Lib.hid a3; have S3 := Lib.hid hs3
  clear D3 a3 b3 hs3 A1 B0 S0
  go_wp2_with fail
  refine (add_n (w.heap.size + 1) _ _ pn cap part _ A3.out (HR.out.below B3.out) (by simp; omega) (by simp)).mono ?_
  rintro e w4 ⟨rfl, a4, b4⟩
  rw [HHE.out] at a4
  have B4 := Lib.hid (B3.out.trans (b4.mono (Nat.le_succ _)))
  have S4 := Lib.hid (Nat.le_trans S3.out b4.size)
  have A0 := Lib.hid (A0.out.below b4 (Nat.lt_succ_self _))
  have A4 := Lib.hid a4
  clear a4 b4 A3 B3 S3
  go_wp2_with fail
  refine (list_any (w.heap.size + 1) hd _ A4.out (by have := HHL.out; omega)).mono ?_
  rintro e w5 ⟨rfl, rfl⟩
  have A5 := Lib.hid (show BlkAt w4.drew (w.heap.size + 1) hd from A4.out)
  have A0 := Lib.hid (show BlkAt w4.drew w.heap.size [] from A0.out)
  have B5 := Lib.hid B4.out.drew
  have S5 := Lib.hid (show w.heap.size + 2 ≤ w4.drew.heap.size from S4.out)
  clear A4 B4 S4
  generalize w4.drew = w5 at A5 A0 B5 S5 ⊢
  go_wp2_with fail
  refine (HCK.out _ _ _ (A5.out.rd (by have := HHL.out; omega))).mono ?_
  rintro e w6 m6
  obtain ⟨p6, c6, rfl, -, r6, b6⟩ := m6.get
  have R6 := Lib.hid r6
  have A6 := Lib.hid (A5.out.below b6 A5.out.lt)
  have A0 := Lib.hid (A0.out.below b6 A0.out.lt)
  have B6 := Lib.hid (below_two B5.out b6)
  clear m6 r6 b6 A5 B5 S5
  go_wp2_with fail
  refine (add_any (w.heap.size + 1) hd _ _ th _ A6.out R6.out (by have := HHL.out; have := HTL.out; omega) (by have := HHL.out; omega)).mono ?_
  rintro e w7 ⟨rfl, a7, b7⟩
  have B7 := Lib.hid (B6.out.trans (b7.mono (Nat.le_succ _)))
  have A0 := Lib.hid (A0.out.below b7 (Nat.lt_succ_self _))
  have A7 := Lib.hid a7
  have HX : (hd ++ th).length ≤ 33 := by have := HHL.out; have := HTL.out; rw [List.length_append]; omega
  have I7 := Lib.hid (infoBlk_of HX)
  have I0 := Lib.hid (show (cellsI (blk [])).size = (cellsI (blk (hd ++ th))).size from by rw [cellsI_size, cellsI_size, blk_len HX]; rfl)
  clear a7 b7 A6 B6 R6 HX
  obtain ⟨C, hC⟩ : ∃ C, C = cellsI (blk (hd ++ th)) := ⟨_, rfl⟩
  have N1 := Lib.hid (show C.all (·.oneCell') = true from by rw [hC]; exact cellsI_one _)
  have H1 := Lib.hid (show w7.heap[w.heap.size + 1]? = some (.cells C 164 (0, 0)) from by rw [hC]; exact A7.out)
  obtain ⟨Z0, hZ0⟩ : ∃ Z0, Z0 = cellsI (blk []) := ⟨_, rfl⟩
  have H0 := Lib.hid (show w7.heap[w.heap.size]? = some (.cells Z0 164 (0, 0)) from by rw [hZ0]; exact A0.out)
  rw [← hC] at I7 I0
  rw [← hZ0] at I0
  have HC := Lib.hid hC
  clear hC hZ0 A7 A0
  go_wp2_with (first
    | (with_reducible refine wpList_load_row rfl 164 (.tmp 7) rfl (w.heap.size + 1) rfl _ C (0, 0) _ H1.out Tryz.underlying164 rfl I7.out ?_)
    | (with_reducible refine wpList_store_row rfl 164 (.tmp 6) (.tmp 23) rfl w.heap.size C rfl rfl _ Z0 H0.out I7.out I0.out N1.out ?_))
  have h9 := setRow_heap w7 w.heap.size Z0 C _ _ H0.out
  refine bodyPost_ret (results_cell_row rfl _ _ w.heap.size _ C (0, 0) _ rfl h9 Tryz.underlying164 rfl I7.out) rfl ?_
  exact ⟨by rw [HC.out]; rfl, below_setRow B7.out (Nat.le_refl _) _⟩
end

section
open Go.RowKit
theorem Rd.any0 {w : World} {ao : Option Addr} : Rd w ao 0 [] := ⟨rfl, fun h => absurd h (by omega)⟩
end

section
open Go.RowKit
def imgTo (xs : List Int) (k : Nat) : List Int := (List.range k).flatMap (blockOf xs)
theorem imgTo_succ (xs : List Int) (k : Nat) : imgTo xs (k + 1) = imgTo xs k ++ (headOf xs k ++ three (checkOf k (headOf xs k))) := by
  unfold imgTo
  rw [List.range_succ, List.flatMap_append]
  simp [blockOf]
theorem imgTo_len (xs : List Int) (k : Nat) : (imgTo xs k).length ≤ 33 * k := by
  induction k with
  | zero => simp [imgTo]
  | succ k ih =>
    have h := block_le xs k
    have e : imgTo xs (k + 1) = imgTo xs k ++ blockOf xs k := imgTo_succ xs k
    rw [e, List.length_append]
    omega
theorem imgTo_all (xs : List Int) : imgTo xs (blocksOf xs.length) = image9 xs := rfl
theorem head_bytes {xs : List Int} (hb : isBytes xs = true) (_hn : xs.length ≤ 868) {k : Nat} (hk : k ≤ 31) : isBytes (headOf xs k) = true := by
  have hp := part_len xs k
  refine isBytes_iff.2 ⟨by rw [head_len, hp]; omega, fun x hx => ?_⟩
  unfold headOf at hx
  rw [List.mem_append] at hx
  rcases hx with hx | hx
  · rcases List.mem_cons.1 hx with rfl | hx
    · omega
    · rw [List.mem_singleton.1 hx]
      split <;> omega
  · exact (isBytes_iff.1 hb).2 x (List.mem_of_mem_drop (List.mem_of_mem_take hx))
set_option linter.unusedSimpArgs false in
set_option linter.unusedVariables false in
set_option maxHeartbeats 4000000 in
set_option maxRecDepth 100000 in
theorem l09Image_any (ao : Option Addr) (n cap : Nat) (xs : List Int) (w : World) (hr : Rd w ao n xs) (hb : isBytes xs = true) (hn : n ≤ 868) (hcap : n ≤ cap) (hcap2 : cap ≤ 9223372036854775807) :
    Calls Tryz.prog 91 #[.slice ao n cap] w (Makes 2 w (image9 xs)) := by
  have hl := hr.len
  have hn8 : xs.length ≤ 868 := by omega
  obtain ⟨B, hB⟩ : ∃ B, blocksOf n = B := ⟨_, rfl⟩
  have hB1 : 1 ≤ B := by rw [← hB]; exact blocks_pos _
  have hB31 : B ≤ 31 := by rw [← hB]; exact blocks_31 hn
  have hBk : ∀ k, 0 < k → (k < B ↔ 28 * k < n) := fun k hk => by unfold blocksOf at hB; omega
  have hBl : ∀ k, k < B → (k + 1 = B ↔ n ≤ 28 * k + 28) := fun k hk => by unfold blocksOf at hB; omega
  have hall : image9 xs = imgTo xs B := by rw [← imgTo_all, hl, hB]
  rw [hall]
  have HB := Lib.hid hB; have HBK := Lib.hid hBk; have HBL := Lib.hid hBl; have HXB := Lib.hid hb; have HL := Lib.hid hl; have HN8 := Lib.hid hn8
  clear hB hall hBk hBl hb hl hn8
  go_enter Tryz.func91, Tryz.ntmps91
  go_wp2
  go_loopw [3, 4] (fun v i wr => ∃ k : Nat, k ≤ B ∧ i = .int .i64 (k : Int) ∧ Hid (Own 2 wr w.heap.size v (imgTo xs k)) ∧ Hid (Below w.heap.size w wr)) (fun _ i _ => B - (intOf i).toNat)
  case atStart => exact ⟨0, Nat.zero_le _, rfl, Own.of_alloc_nil (Nat.le_refl _), (Below.refl _ _).alloc (Nat.le_refl _) _⟩
  case round =>
    obtain ⟨k, hk, rfl, hown, hbel⟩ := hrel
    by_cases hkB : k < B
    · have hin := checkOf_in k (headOf xs k)
      have hhl := head_len xs k
      have hpl := part_len xs k
      rw [HL.out] at hpl
      have hhb := head_bytes HXB.out HN8.out (k := k) (by omega)
      have hac := imgTo_len xs k
      have hsu := imgTo_succ xs k
      have hck := fun p c W h => l09Check_any k p c (headOf xs k) W (by omega) h hhb
      have hhe : headOf xs k = [(k : Int), (partOf xs k).length + (if k + 1 = B then 128 else 0)] ++ partOf xs k := by unfold headOf; rw [HL.out, HB.out]
      obtain ⟨acc, hacc⟩ : ∃ acc, imgTo xs k = acc := ⟨_, rfl⟩
      rw [hacc] at hac hsu hown
      obtain ⟨hd, hhd⟩ : ∃ hd, headOf xs k = hd := ⟨_, rfl⟩
      rw [hhd] at hin hhl hsu hck hhe
      obtain ⟨x, hx⟩ : ∃ x, checkOf k hd = x := ⟨_, rfl⟩
      rw [hx] at hin hsu hck
      have q1 : IntKind.i64.wrap (x.tdiv 65536) = x / 65536 := by rw [Int.tdiv_eq_ediv_of_nonneg hin.1, IntKind.wrap_i64]; omega
      have q2 : IntKind.i64.wrap (x.tdiv 256) = x / 256 := by rw [Int.tdiv_eq_ediv_of_nonneg hin.1, IntKind.wrap_i64]; omega
      have q3 : (x / 256).tmod 256 = x / 256 % 256 := by rw [Int.tmod_eq_emod_of_nonneg (by omega)]
      have q4 : x.tmod 256 = x % 256 := by rw [Int.tmod_eq_emod_of_nonneg hin.1]
      obtain ⟨y0, e0⟩ : ∃ y, x / 65536 = y := ⟨_, rfl⟩
      obtain ⟨y1, e1⟩ : ∃ y, x / 256 = y := ⟨_, rfl⟩
      obtain ⟨y2, e2⟩ : ∃ y, y1 % 256 = y := ⟨_, rfl⟩
      obtain ⟨y3, e3⟩ : ∃ y, x % 256 = y := ⟨_, rfl⟩
      have h3 : three x = [y0, y2, y3] := by unfold three; rw [e0, e1, e2, e3]
      rw [e0] at q1; rw [e1] at q2 q3; rw [e2] at q3; rw [e3] at q4
      rw [h3] at hsu
      obtain ⟨t, ht⟩ : ∃ t, 28 * k = t := ⟨_, rfl⟩
      have hkt : (k : Int) * 28 = (t : Int) := by omega
      have hkt2 : ((k : Int) + 1) * 28 = (t : Int) + 28 := by omega
      have hBk := HBK.out k
      have hBl := HBL.out k hkB
      rw [ht] at hpl hBk hBl
      obtain ⟨pt, hpt⟩ : ∃ pt, partOf xs k = pt := ⟨_, rfl⟩
      have hptd : (xs.drop t).take 28 = pt := by rw [← hpt, ← ht]; rfl
      rw [hpt] at hpl hhl hhe
      have Q1 := Lib.hid q1; have Q2 := Lib.hid q2; have Q3 := Lib.hid q3; have Q4 := Lib.hid q4
      have HSU := Lib.hid hsu; have HAC := Lib.hid (show acc.length ≤ 1048576 by omega); have HHL := Lib.hid (show hd.length ≤ 1048576 by omega); have HCK := Lib.hid hck
      clear q1 q2 q3 q4 e0 e1 e2 e3 h3 hin hsu hac hck hhb hx hhd hacc hpt ht
      obtain ⟨po, co, rfl, hown, -⟩ := hown.out.get
      have O0 := Lib.hid hown; have B0 := Lib.hid hbel.out
      clear hown hbel hhl
      have hrr := hr.below B0.out
      have ht9 : t ≤ 868 := by
        by_cases h0 : 0 < k
        · have := (hBk h0).1 hkB; omega
        · omega
      by_cases hn0 : n = 0
      · have hk00 : k = 0 := by have := hBk; omega
        have hpt0 : pt = [] := List.length_eq_zero_iff.1 (by omega)
        subst hpt0
        have hlast : k + 1 = B := hBl.2 (by omega)
        rw [if_pos hlast] at hhe
        subst hk00
        have HHE := Lib.hid (show [((0 : Nat) : Int), 128] ++ ([] : List Int) = hd from by rw [hhe]; simp)
        have HP : Hid (∀ W, Below wr.heap.size wr W → ∀ a, Rd W a 0 ([] : List Int)) := fun W _ a => Rd.any0
        have ht0 : t = 0 := by omega
        subst ht0
        subst hn0
        clear hhe hBk hBl hpl hptd hrr hkt hkt2
        by_cases hc0 : cap = 0
        · subst hc0
          clear hcap hcap2
          go_wp2_with (at_builtin; (refine append_list _ rfl (.tmp 43) (.tmp 44) rfl wr.heap.size Tryz.underlying35 info64 _ [((0 : Nat) : Int), 128] rfl (Own.of_alloc_two _ _ (Nat.le_refl _)) _ _ _ [] rfl (HP.out _ ((Below.refl _ _).alloc (Nat.le_refl _) _) _) (by simp only [List.length_cons, List.length_nil]; omega) (by simp) ?_; intro v1 w1 o1 b1; have B1 := Lib.hid (((Below.refl wr.heap.size wr).alloc (Nat.le_refl _) _).trans b1); rw [HHE.out] at o1; obtain ⟨p1, c1, rfl, o1, r1⟩ := o1.get; have O1 := Lib.hid o1; have R1 := Lib.hid r1; clear o1 r1 b1))
          refine (HCK.out _ _ _ R1.out).mono ?_
          rintro e w2 ⟨rfl, b2⟩
          have B2 := Lib.hid (below_step B1.out B1.out.size b2)
          have O2 := Lib.hid (O1.out.below b2)
          clear b2 B1 O1 R1
          have q1 := Q1.out; have q2 := Q2.out; have q3 := Q3.out; have q4 := Q4.out
          go_wp2_with (first
            | (at_builtin; refine append_list _ rfl (.tmp 50) (.tmp 58) rfl wr.heap.size Tryz.underlying35 info64 _ hd rfl (O2.out.below ((Below.refl _ _).alloc (Nat.le_refl _) _)) _ _ _ [y0, y2, y3] rfl (rd_three y0 y2 y3 _) (by have := HHL.out; omega) (by have := B2.out.size; simp; omega) ?_; intro v3 w3 o3 b3; have B3 := Lib.hid ((B2.out.alloc B2.out.size _).trans b3); obtain ⟨p3, c3, rfl, o3, r3⟩ := o3.get; have R3 := Lib.hid r3; clear o3 r3 b3)
            | (at_builtin; refine append_list _ rfl (.tmp 49) (.tmp 59) rfl w.heap.size Tryz.underlying35 info64 _ acc rfl (O0.out.below B3.out) _ _ _ (hd ++ [y0, y2, y3]) rfl R3.out (by have := HHL.out; have := HAC.out; simp; omega) (by have := B3.out.size; have := B0.out.size; omega) ?_; intro v4 w4 o4 b4))
          go_roundw
          case rel => exact ⟨0 + 1, by omega, by first | go_num | (congr 1; omega), by rw [HSU.out]; exact o4, (below_step B0.out B0.out.size B3.out).trans b4⟩
          case measure => simp [intOf]; omega
        · obtain ⟨e, rfl⟩ : ∃ e, cap = e + 1 := ⟨cap - 1, by omega⟩
          clear hcap hc0
          go_wp2_with (at_builtin; (refine append_list _ rfl (.tmp 43) (.tmp 44) rfl wr.heap.size Tryz.underlying35 info64 _ [((0 : Nat) : Int), 128] rfl (Own.of_alloc_two _ _ (Nat.le_refl _)) _ _ _ [] rfl (HP.out _ ((Below.refl _ _).alloc (Nat.le_refl _) _) _) (by simp only [List.length_cons, List.length_nil]; omega) (by simp) ?_; intro v1 w1 o1 b1; have B1 := Lib.hid (((Below.refl wr.heap.size wr).alloc (Nat.le_refl _) _).trans b1); rw [HHE.out] at o1; obtain ⟨p1, c1, rfl, o1, r1⟩ := o1.get; have O1 := Lib.hid o1; have R1 := Lib.hid r1; clear o1 r1 b1))
          refine (HCK.out _ _ _ R1.out).mono ?_
          rintro e w2 ⟨rfl, b2⟩
          have B2 := Lib.hid (below_step B1.out B1.out.size b2)
          have O2 := Lib.hid (O1.out.below b2)
          clear b2 B1 O1 R1
          have q1 := Q1.out; have q2 := Q2.out; have q3 := Q3.out; have q4 := Q4.out
          go_wp2_with (first
            | (at_builtin; refine append_list _ rfl (.tmp 50) (.tmp 58) rfl wr.heap.size Tryz.underlying35 info64 _ hd rfl (O2.out.below ((Below.refl _ _).alloc (Nat.le_refl _) _)) _ _ _ [y0, y2, y3] rfl (rd_three y0 y2 y3 _) (by have := HHL.out; omega) (by have := B2.out.size; simp; omega) ?_; intro v3 w3 o3 b3; have B3 := Lib.hid ((B2.out.alloc B2.out.size _).trans b3); obtain ⟨p3, c3, rfl, o3, r3⟩ := o3.get; have R3 := Lib.hid r3; clear o3 r3 b3)
            | (at_builtin; refine append_list _ rfl (.tmp 49) (.tmp 59) rfl w.heap.size Tryz.underlying35 info64 _ acc rfl (O0.out.below B3.out) _ _ _ (hd ++ [y0, y2, y3]) rfl R3.out (by have := HHL.out; have := HAC.out; simp; omega) (by have := B3.out.size; have := B0.out.size; omega) ?_; intro v4 w4 o4 b4))
          go_roundw
          case rel => exact ⟨0 + 1, by omega, by first | go_num | (congr 1; omega), by rw [HSU.out]; exact o4, (below_step B0.out B0.out.size B3.out).trans b4⟩
          case measure => simp [intOf]; omega
      · by_cases hz : k = 0
        · subst hz
          have ht0 : t = 0 := by omega
          subst ht0
          obtain ⟨r, rfl⟩ : ∃ r, n = r + 1 := ⟨n - 1, by omega⟩
          obtain ⟨e, rfl⟩ : ∃ e, cap = e + 1 := ⟨cap - 1, by omega⟩
          rw [List.drop_zero] at hptd
          by_cases hlast : 0 + 1 = B
          · have hle := hBl.1 hlast
            rw [if_pos hlast] at hhe
            have hpl2 : pt.length = r + 1 := by omega
            rw [List.take_of_length_le (by rw [HL.out]; omega)] at hptd
            have hT : Rd wr ao (r + 1) pt := by rw [← hptd]; exact hrr
            have HHE := Lib.hid (show [((0 : Nat) : Int), (r : Int) + 1 + 128] ++ pt = hd from by rw [hhe, hpl2]; push_cast; rfl)
            have HP : Hid (∀ W, Below wr.heap.size wr W → Rd W ao (r + 1) pt) := fun W h => hT.below h
            have hle2 : (r : Int) + 1 ≤ 28 := by omega
            have hb2 : (r : Int) + 1 ≤ (e : Int) + 1 := by omega
            clear hhe hBk hpl hpl2 hptd hrr hT hBl hlast hcap hcap2 hkt hkt2
            go_wp2_with (at_builtin; (refine append_list _ rfl (.tmp 43) (.tmp 44) rfl wr.heap.size Tryz.underlying35 info64 _ [((0 : Nat) : Int), ((r : Int) + 1 + 128)] rfl (Own.of_alloc_two _ _ (Nat.le_refl _)) _ _ _ pt rfl (HP.out _ ((Below.refl _ _).alloc (Nat.le_refl _) _)) (by simp only [List.length_cons, List.length_nil]; omega) (by simp) ?_; intro v1 w1 o1 b1; have B1 := Lib.hid (((Below.refl wr.heap.size wr).alloc (Nat.le_refl _) _).trans b1); rw [HHE.out] at o1; obtain ⟨p1, c1, rfl, o1, r1⟩ := o1.get; have O1 := Lib.hid o1; have R1 := Lib.hid r1; clear o1 r1 b1))
            refine (HCK.out _ _ _ R1.out).mono ?_
            rintro e w2 ⟨rfl, b2⟩
            have B2 := Lib.hid (below_step B1.out B1.out.size b2)
            have O2 := Lib.hid (O1.out.below b2)
            clear b2 B1 O1 R1
            have q1 := Q1.out; have q2 := Q2.out; have q3 := Q3.out; have q4 := Q4.out
            go_wp2_with (first
              | (at_builtin; refine append_list _ rfl (.tmp 50) (.tmp 58) rfl wr.heap.size Tryz.underlying35 info64 _ hd rfl (O2.out.below ((Below.refl _ _).alloc (Nat.le_refl _) _)) _ _ _ [y0, y2, y3] rfl (rd_three y0 y2 y3 _) (by have := HHL.out; omega) (by have := B2.out.size; simp; omega) ?_; intro v3 w3 o3 b3; have B3 := Lib.hid ((B2.out.alloc B2.out.size _).trans b3); obtain ⟨p3, c3, rfl, o3, r3⟩ := o3.get; have R3 := Lib.hid r3; clear o3 r3 b3)
              | (at_builtin; refine append_list _ rfl (.tmp 49) (.tmp 59) rfl w.heap.size Tryz.underlying35 info64 _ acc rfl (O0.out.below B3.out) _ _ _ (hd ++ [y0, y2, y3]) rfl R3.out (by have := HHL.out; have := HAC.out; simp; omega) (by have := B3.out.size; have := B0.out.size; omega) ?_; intro v4 w4 o4 b4))
            go_roundw
            case rel => exact ⟨0 + 1, by omega, by first | go_num | (congr 1; omega), by rw [HSU.out]; exact o4, (below_step B0.out B0.out.size B3.out).trans b4⟩
            case measure => simp [intOf]; omega
          · have hle := mt hBl.2 hlast
            rw [if_neg hlast] at hhe
            have hpl2 : pt.length = 28 := by omega
            have hT := hrr.head9 (a := 28) (by omega)
            rw [hptd] at hT
            have HHE := Lib.hid (show [((0 : Nat) : Int), 28] ++ pt = hd from by rw [hhe, hpl2]; simp)
            have HP : Hid (∀ W, Below wr.heap.size wr W → Rd W ao 28 pt) := fun W h => hT.below h
            have hle2 : ¬ (r : Int) + 1 ≤ 28 := by omega
            have hb2 : (28 : Int) ≤ (e : Int) + 1 := by omega
            clear hhe hBk hpl hpl2 hptd hrr hT hBl hlast hcap hcap2 hkt hkt2
            go_wp2_with (at_builtin; (refine append_list _ rfl (.tmp 43) (.tmp 44) rfl wr.heap.size Tryz.underlying35 info64 _ [((0 : Nat) : Int), 28] rfl (Own.of_alloc_two _ _ (Nat.le_refl _)) _ _ _ pt rfl (HP.out _ ((Below.refl _ _).alloc (Nat.le_refl _) _)) (by simp only [List.length_cons, List.length_nil]; omega) (by simp) ?_; intro v1 w1 o1 b1; have B1 := Lib.hid (((Below.refl wr.heap.size wr).alloc (Nat.le_refl _) _).trans b1); rw [HHE.out] at o1; obtain ⟨p1, c1, rfl, o1, r1⟩ := o1.get; have O1 := Lib.hid o1; have R1 := Lib.hid r1; clear o1 r1 b1))
            refine (HCK.out _ _ _ R1.out).mono ?_
            rintro e w2 ⟨rfl, b2⟩
            have B2 := Lib.hid (below_step B1.out B1.out.size b2)
            have O2 := Lib.hid (O1.out.below b2)
            clear b2 B1 O1 R1
            have q1 := Q1.out; have q2 := Q2.out; have q3 := Q3.out; have q4 := Q4.out
            go_wp2_with (first
              | (at_builtin; refine append_list _ rfl (.tmp 50) (.tmp 58) rfl wr.heap.size Tryz.underlying35 info64 _ hd rfl (O2.out.below ((Below.refl _ _).alloc (Nat.le_refl _) _)) _ _ _ [y0, y2, y3] rfl (rd_three y0 y2 y3 _) (by have := HHL.out; omega) (by have := B2.out.size; simp; omega) ?_; intro v3 w3 o3 b3; have B3 := Lib.hid ((B2.out.alloc B2.out.size _).trans b3); obtain ⟨p3, c3, rfl, o3, r3⟩ := o3.get; have R3 := Lib.hid r3; clear o3 r3 b3)
              | (at_builtin; refine append_list _ rfl (.tmp 49) (.tmp 59) rfl w.heap.size Tryz.underlying35 info64 _ acc rfl (O0.out.below B3.out) _ _ _ (hd ++ [y0, y2, y3]) rfl R3.out (by have := HHL.out; have := HAC.out; simp; omega) (by have := B3.out.size; have := B0.out.size; omega) ?_; intro v4 w4 o4 b4))
            go_roundw
            case rel => exact ⟨0 + 1, by omega, by first | go_num | (congr 1; omega), by rw [HSU.out]; exact o4, (below_step B0.out B0.out.size B3.out).trans b4⟩
            case measure => simp [intOf]; omega
        · have htn : t < n := (hBk (by omega)).1 hkB
          obtain ⟨r, rfl⟩ : ∃ r, n = r + 1 + t := ⟨n - t - 1, by omega⟩
          obtain ⟨e, rfl⟩ : ∃ e, cap = e + 1 + t := ⟨cap - t - 1, by omega⟩
          have hT := hrr.tail9 (a := t) (m := r + 1) rfl
          have hk0 : ((k : Int) == 0) = false := by simp; omega
          have hge1 : (t : Int) ≤ (r : Int) + 1 + (t : Int) := by omega
          have hlt : (t : Int) < (r : Int) + 1 + (t : Int) := by omega
          by_cases hlast : k + 1 = B
          · have hle := hBl.1 hlast
            rw [if_pos hlast] at hhe
            have hpl2 : pt.length = r + 1 := by omega
            rw [List.take_of_length_le (by rw [List.length_drop, HL.out]; omega)] at hptd
            rw [hptd] at hT
            have HHE := Lib.hid (show [(k : Int), (r : Int) + 1 + 128] ++ pt = hd from by rw [hhe, hpl2]; push_cast; rfl)
            have HP : Hid (∀ W, Below wr.heap.size wr W → Rd W (Option.map (fun x => x.add t) ao) (r + 1 + t - t) pt) := fun W h => by rw [Nat.add_sub_cancel]; exact hT.below h
            have hle2 : (r : Int) + 1 + (t : Int) ≤ (t : Int) + 28 := by omega
            have hb2 : (r : Int) + 1 + (t : Int) ≤ (e : Int) + 1 + (t : Int) := by omega
            clear hhe hBk hpl hpl2 hptd hrr hT hBl hlast hcap hcap2
            go_wp2_with (at_builtin; (refine append_list _ rfl (.tmp 43) (.tmp 44) rfl wr.heap.size Tryz.underlying35 info64 _ [(k : Int), ((r : Int) + 1 + 128)] rfl (Own.of_alloc_two _ _ (Nat.le_refl _)) _ _ _ pt rfl (HP.out _ ((Below.refl _ _).alloc (Nat.le_refl _) _)) (by simp only [List.length_cons, List.length_nil]; omega) (by simp) ?_; intro v1 w1 o1 b1; have B1 := Lib.hid (((Below.refl wr.heap.size wr).alloc (Nat.le_refl _) _).trans b1); rw [HHE.out] at o1; obtain ⟨p1, c1, rfl, o1, r1⟩ := o1.get; have O1 := Lib.hid o1; have R1 := Lib.hid r1; clear o1 r1 b1))
            refine (HCK.out _ _ _ R1.out).mono ?_
            rintro e w2 ⟨rfl, b2⟩
            have B2 := Lib.hid (below_step B1.out B1.out.size b2)
            have O2 := Lib.hid (O1.out.below b2)
            clear b2 B1 O1 R1
            have q1 := Q1.out; have q2 := Q2.out; have q3 := Q3.out; have q4 := Q4.out
            go_wp2_with (first
              | (at_builtin; refine append_list _ rfl (.tmp 50) (.tmp 58) rfl wr.heap.size Tryz.underlying35 info64 _ hd rfl (O2.out.below ((Below.refl _ _).alloc (Nat.le_refl _) _)) _ _ _ [y0, y2, y3] rfl (rd_three y0 y2 y3 _) (by have := HHL.out; omega) (by have := B2.out.size; simp; omega) ?_; intro v3 w3 o3 b3; have B3 := Lib.hid ((B2.out.alloc B2.out.size _).trans b3); obtain ⟨p3, c3, rfl, o3, r3⟩ := o3.get; have R3 := Lib.hid r3; clear o3 r3 b3)
              | (at_builtin; refine append_list _ rfl (.tmp 49) (.tmp 59) rfl w.heap.size Tryz.underlying35 info64 _ acc rfl (O0.out.below B3.out) _ _ _ (hd ++ [y0, y2, y3]) rfl R3.out (by have := HHL.out; have := HAC.out; simp; omega) (by have := B3.out.size; have := B0.out.size; omega) ?_; intro v4 w4 o4 b4))
            go_roundw
            case rel => exact ⟨k + 1, by omega, by first | go_num | (congr 1; omega), by rw [HSU.out]; exact o4, (below_step B0.out B0.out.size B3.out).trans b4⟩
            case measure => simp [intOf]; omega
          · have hle := mt hBl.2 hlast
            rw [if_neg hlast] at hhe
            have hpl2 : pt.length = 28 := by omega
            have hT2 := hT.head9 (a := 28) (by omega)
            rw [hptd] at hT2
            have HHE := Lib.hid (show [(k : Int), 28] ++ pt = hd from by rw [hhe, hpl2]; simp)
            have HP : Hid (∀ W, Below wr.heap.size wr W → Rd W (Option.map (fun x => x.add t) ao) (t + 28 - t) pt) := fun W h => by rw [Nat.add_sub_cancel_left]; exact hT2.below h
            have hle2 : ¬ ((r : Int) + 1 + (t : Int) ≤ (t : Int) + 28) := by omega
            have hb2 : (t : Int) + 28 ≤ (e : Int) + 1 + (t : Int) := by omega
            have hb3 : (t : Int) ≤ (t : Int) + 28 := by omega
            clear hhe hBk hpl hpl2 hptd hrr hT hT2 hBl hlast hcap hcap2
            go_wp2_with (at_builtin; (refine append_list _ rfl (.tmp 43) (.tmp 44) rfl wr.heap.size Tryz.underlying35 info64 _ [(k : Int), 28] rfl (Own.of_alloc_two _ _ (Nat.le_refl _)) _ _ _ pt rfl (HP.out _ ((Below.refl _ _).alloc (Nat.le_refl _) _)) (by simp only [List.length_cons, List.length_nil]; omega) (by simp) ?_; intro v1 w1 o1 b1; have B1 := Lib.hid (((Below.refl wr.heap.size wr).alloc (Nat.le_refl _) _).trans b1); rw [HHE.out] at o1; obtain ⟨p1, c1, rfl, o1, r1⟩ := o1.get; have O1 := Lib.hid o1; have R1 := Lib.hid r1; clear o1 r1 b1))
            refine (HCK.out _ _ _ R1.out).mono ?_
            rintro e w2 ⟨rfl, b2⟩
            have B2 := Lib.hid (below_step B1.out B1.out.size b2)
            have O2 := Lib.hid (O1.out.below b2)
            clear b2 B1 O1 R1
            have q1 := Q1.out; have q2 := Q2.out; have q3 := Q3.out; have q4 := Q4.out
            go_wp2_with (first
              | (at_builtin; refine append_list _ rfl (.tmp 50) (.tmp 58) rfl wr.heap.size Tryz.underlying35 info64 _ hd rfl (O2.out.below ((Below.refl _ _).alloc (Nat.le_refl _) _)) _ _ _ [y0, y2, y3] rfl (rd_three y0 y2 y3 _) (by have := HHL.out; omega) (by have := B2.out.size; simp; omega) ?_; intro v3 w3 o3 b3; have B3 := Lib.hid ((B2.out.alloc B2.out.size _).trans b3); obtain ⟨p3, c3, rfl, o3, r3⟩ := o3.get; have R3 := Lib.hid r3; clear o3 r3 b3)
              | (at_builtin; refine append_list _ rfl (.tmp 49) (.tmp 59) rfl w.heap.size Tryz.underlying35 info64 _ acc rfl (O0.out.below B3.out) _ _ _ (hd ++ [y0, y2, y3]) rfl R3.out (by have := HHL.out; have := HAC.out; simp; omega) (by have := B3.out.size; have := B0.out.size; omega) ?_; intro v4 w4 o4 b4))
            go_roundw
            case rel => exact ⟨k + 1, by omega, by first | go_num | (congr 1; omega), by rw [HSU.out]; exact o4, (below_step B0.out B0.out.size B3.out).trans b4⟩
            case measure => simp [intOf]; omega
    · have hkn : k = B := by omega
      subst hkn
      have hk0 : ((k : Int) == 0) = false := by simp; omega
      have hlt : ¬ ((k : Int) * 28 < (n : Int)) := by have := mt (HBK.out k (by omega)).2 hkB; omega
      have O0 := Lib.hid hown.out; have B0 := Lib.hid hbel.out
      clear hown hbel
      go_wp2
      go_ret
      exact ⟨_, rfl, O0.out, B0.out⟩
end

section
open Go.RowKit
def openN (n : Nat) (listed : Array Bool) : Nat := ((List.range n).filter fun i => !listed.getD i true).length
def fl (listed : Array Bool) (j : Nat) : Bool := listed.getD j false
theorem filter_less {p q : Nat → Bool} {i : Nat} (hpq : ∀ j, q j = true → p j = true) (hp : p i = true) (hq : q i = false) : ∀ l : List Nat, i ∈ l → (l.filter q).length < (l.filter p).length := by
  have hle : ∀ l : List Nat, (l.filter q).length ≤ (l.filter p).length := fun l => by
    rw [← List.countP_eq_length_filter, ← List.countP_eq_length_filter]
    exact List.countP_mono_left (fun j _ h => hpq j h)
  intro l
  induction l with
  | nil => intro h; cases h
  | cons j l ih =>
    intro h
    by_cases e : i = j
    · subst e
      rw [List.filter_cons_of_neg (by simp [hq]), List.filter_cons_of_pos hp, List.length_cons]
      exact Nat.lt_succ_of_le (hle l)
    · have h' : i ∈ l := by
        rcases List.mem_cons.1 h with h | h
        · exact absurd h e
        · exact h
      have := ih h'
      by_cases hj : q j = true
      · rw [List.filter_cons_of_pos hj, List.filter_cons_of_pos (hpq j hj), List.length_cons, List.length_cons]; omega
      · rw [List.filter_cons_of_neg hj]
        by_cases hj' : p j = true
        · rw [List.filter_cons_of_pos hj', List.length_cons]; omega
        · rw [List.filter_cons_of_neg hj']; exact this
theorem getD_set (listed : Array Bool) (i j : Nat) (d : Bool) (hi : i < listed.size) : (listed.setIfInBounds i true).getD j d = if i = j then true else listed.getD j d := by
  rw [Array.getD_eq_getD_getElem?, Array.getD_eq_getD_getElem?, Array.getElem?_setIfInBounds]
  by_cases e : i = j
  · subst e; simp [hi]
  · simp [e]
theorem size_of_open {listed : Array Bool} {i : Nat} (h : listed.getD i true = false) : i < listed.size := by
  rw [Array.getD_eq_getD_getElem?] at h
  by_cases hi : i < listed.size
  · exact hi
  · rw [Array.getElem?_eq_none (by omega)] at h; cases h
theorem openN_set {n i : Nat} {listed : Array Bool} (hi : i < n) (h : listed.getD i true = false) : openN n (listed.setIfInBounds i true) < openN n listed := by
  have hs := size_of_open h
  refine filter_less (i := i) (fun j hj => ?_) (by simp [h]) ?_ _ (List.mem_range.2 hi)
  · rw [getD_set _ _ _ _ hs] at hj
    by_cases e : i = j
    · simp [e] at hj
    · simpa [e] using hj
  · rw [getD_set _ _ _ _ hs]; simp
theorem fl_set {listed : Array Bool} {i : Nat} (h : listed.getD i true = false) (j : Nat) : fl (listed.setIfInBounds i true) j = if i = j then true else fl listed j := getD_set _ _ _ _ (size_of_open h)
theorem ready_mem {ops : Array Oper} {listed : Array Bool} {i : Nat} (h : i ∈ Region.ready .any ops listed) :
    i < ops.size ∧ listed.getD i true = false ∧ ((ops[i]?).map (·.after.all fun e => !Region.binds .any e || fl listed e.on)).getD false = true := by
  unfold Region.ready at h
  rw [List.mem_filter, List.mem_range] at h
  simp only [Bool.and_eq_true, Bool.not_eq_true'] at h
  exact ⟨h.1, h.2.1, h.2.2⟩
theorem ready_nil {ops : Array Oper} {listed : Array Bool} (hed : ((List.range ops.size).all fun i => ((ops[i]?).map (·.after.all fun e => !Region.binds .any e || decide (e.on < i))).getD true) = true) (hsz : listed.size = ops.size)
    (h : Region.ready .any ops listed = []) : ∀ i, i < ops.size → fl listed i = true := by
  intro i
  induction i using Nat.strongRecOn with
  | ind i ih =>
    intro hi
    have hn : i ∉ Region.ready .any ops listed := by rw [h]; simp
    have he := (List.all_eq_true.1 hed) i (List.mem_range.2 hi)
    rw [Array.getElem?_eq_getElem hi] at he
    simp only [Option.map_some, Option.getD_some, Array.all_eq_true_iff_forall_mem, Bool.or_eq_true, decide_eq_true_eq] at he
    unfold Region.ready at hn
    rw [List.mem_filter, List.mem_range, Array.getElem?_eq_getElem hi] at hn
    have ha : (ops[i].after.all fun e => !Region.binds .any e || listed.getD e.on false) = true := by
      rw [Array.all_eq_true_iff_forall_mem]
      intro e hm
      rcases he e hm with h1 | h1
      · rw [h1]; rfl
      · have h2 := ih e.on h1 (by omega)
        unfold fl at h2
        rw [h2]; simp
    simp only [Option.map_some, Option.getD_some, ha, Bool.and_true] at hn
    have h3 : listed.getD i true = true := by
      cases hl : listed.getD i true
      · exact absurd ⟨hi, by rw [hl]; rfl⟩ hn
      · rfl
    unfold fl
    rw [Array.getD_eq_getD_getElem?, Array.getElem?_eq_getElem (by omega)] at h3 ⊢
    exact h3
end

section
open Go.RowKit
theorem wpAnyIn_inv {F : Fence} {n : Nat} {P : Program} {ops : Array Oper} {Q : Exit → Act → World → Prop} (I : Array Bool → Act → World → Prop)
    (hstep : ∀ listed a w, I listed a w → ∀ i ∈ Region.ready .any ops listed, ∀ K : Act → World → Prop, (∀ a' w', I (listed.setIfInBounds i true) a' w' → K a' w') → wpOpIn F n P ops Q i K a w)
    (hend : ∀ listed a w, I listed a w → Region.ready .any ops listed = [] → Q .normal a w) :
    ∀ fuel listed a w, openN ops.size listed ≤ fuel → I listed a w → wpAnyIn F n P .any ops Q fuel listed a w := by
  intro fuel
  induction fuel with
  | zero =>
    intro listed a w hf hI
    have hr : Region.ready .any ops listed = [] := by
      cases hr : Region.ready .any ops listed with
      | nil => rfl
      | cons i l =>
        have hi : i ∈ Region.ready .any ops listed := by rw [hr]; simp
        obtain ⟨h1, h2, _⟩ := ready_mem hi
        have := openN_set h1 h2
        omega
    exact ⟨hr, hend _ _ _ hI hr⟩
  | succ fuel ih =>
    intro listed a w hf hI
    refine ⟨fun hr => hend _ _ _ hI hr, fun i hi => ?_⟩
    obtain ⟨h1, h2, _⟩ := ready_mem hi
    have := openN_set h1 h2
    exact hstep listed a w hI i hi _ (fun a' w' hI' => ih _ a' w' (by omega) hI')
theorem wpOpIn_of {F : Fence} {n : Nat} {P : Program} {ops : Array Oper} {Q : Exit → Act → World → Prop} {i : Nat} {o : Oper} {K : Act → World → Prop} {a : Act} {w : World} (ho : ops[i]? = some o) (hg : o.guard = none) (h : o.wpIn F n P a w K Q) : wpOpIn F n P ops Q i K a w := by
  unfold wpOpIn
  simp [ho, Region.wanted, hg, h]
def upd (f : Nat → Bool) (i j : Nat) : Bool := if i = j then true else f j
theorem fl_upd {listed : Array Bool} {i : Nat} (h : listed.getD i true = false) : fl (listed.setIfInBounds i true) = upd (fl listed) i := funext fun j => fl_set h j
theorem fl_no {listed : Array Bool} {i : Nat} (h : listed.getD i true = false) : fl listed i = false := by
  have hs := size_of_open h
  unfold fl
  rw [Array.getD_eq_getD_getElem?, Array.getElem?_eq_getElem hs] at h ⊢
  exact h
end

section
open Go.RowKit Go.Shelf
attribute [local go_sem] Oper.semAt_some
theorem head_is (xs : List Int) (k : Nat) : headB k (partOf xs k) (decide (k + 1 = blocksOf xs.length)) = headOf xs k := by
  unfold headB headOf flag9
  congr 2
  by_cases h : k + 1 = blocksOf xs.length <;> simp [h]
theorem fl_none (n j : Nat) : fl (Array.replicate n false) j = false := by
  unfold fl
  rw [Array.getD_eq_getD_getElem?, Array.getElem?_replicate]
  split <;> rfl
theorem round_any {n n' : Nat} {P : Program} {l f : Nat} {tmps : Array Value} {assign body : Code} {w : World} {R : Ending → World → Prop} (l2 : Nat) (h : RoundIn Fence.wide n P l f tmps assign body w R) : RoundIn (Fence.wide.inRound l2) n' P l f tmps assign body w R :=
  ⟨trivial, fun c cs _ => h.2 c cs (room_wide _)⟩
def blkEnc (x : List Int) : Array Value := #[blkVal x]
structure PB (W1 w' : World) (f : Nat → Bool) (Y K S L Q V v0 v1 v2 v3 v4 v5 v6 : Value) : Prop where
  n7 : f 7 = false
  n8 : f 8 = false
  bel : Below W1.heap.size W1 w'
  f0 : f 0 = true → v0 = Y
  f1 : f 1 = true → v1 = K
  f2 : f 2 = true → v2 = S
  f3 : f 3 = true → v3 = K
  f4 : f 4 = true → v4 = L
  f5 : f 5 = true → v5 = Q
  f6 : f 6 = true → v6 = V
  c5 : f 5 = true → f 3 = true ∧ f 4 = true
  c6 : f 6 = true → f 1 = true ∧ f 2 = true ∧ f 5 = true
section
variable {W1 w' w2 : World} {f : Nat → Bool} {Y K S L Q V v0 v1 v2 v3 v4 v5 v6 : Value}
theorem PB.s0 (h : PB W1 w' f Y K S L Q V v0 v1 v2 v3 v4 v5 v6) : PB W1 w' (upd f 0) Y K S L Q V Y v1 v2 v3 v4 v5 v6 where
  n7 := by simpa [upd] using h.n7
  n8 := by simpa [upd] using h.n8
  bel := h.bel
  f0 := fun _ => rfl
  f1 := by simpa [upd] using h.f1
  f2 := by simpa [upd] using h.f2
  f3 := by simpa [upd] using h.f3
  f4 := by simpa [upd] using h.f4
  f5 := by simpa [upd] using h.f5
  f6 := by simpa [upd] using h.f6
  c5 := fun hx => by have := h.c5 (by simpa [upd] using hx); simp [upd, this]
  c6 := fun hx => by have := h.c6 (by simpa [upd] using hx); simp [upd, this]
theorem PB.s1 (h : PB W1 w' f Y K S L Q V v0 v1 v2 v3 v4 v5 v6) : PB W1 w' (upd f 1) Y K S L Q V v0 K v2 v3 v4 v5 v6 where
  n7 := by simpa [upd] using h.n7
  n8 := by simpa [upd] using h.n8
  bel := h.bel
  f0 := by simpa [upd] using h.f0
  f1 := fun _ => rfl
  f2 := by simpa [upd] using h.f2
  f3 := by simpa [upd] using h.f3
  f4 := by simpa [upd] using h.f4
  f5 := by simpa [upd] using h.f5
  f6 := by simpa [upd] using h.f6
  c5 := fun hx => by have := h.c5 (by simpa [upd] using hx); simp [upd, this]
  c6 := fun hx => by have := h.c6 (by simpa [upd] using hx); simp [upd, this]
theorem PB.s2 (h : PB W1 w' f Y K S L Q V v0 v1 v2 v3 v4 v5 v6) : PB W1 w' (upd f 2) Y K S L Q V v0 v1 S v3 v4 v5 v6 where
  n7 := by simpa [upd] using h.n7
  n8 := by simpa [upd] using h.n8
  bel := h.bel
  f0 := by simpa [upd] using h.f0
  f1 := by simpa [upd] using h.f1
  f2 := fun _ => rfl
  f3 := by simpa [upd] using h.f3
  f4 := by simpa [upd] using h.f4
  f5 := by simpa [upd] using h.f5
  f6 := by simpa [upd] using h.f6
  c5 := fun hx => by have := h.c5 (by simpa [upd] using hx); simp [upd, this]
  c6 := fun hx => by have := h.c6 (by simpa [upd] using hx); simp [upd, this]
theorem PB.s3 (h : PB W1 w' f Y K S L Q V v0 v1 v2 v3 v4 v5 v6) : PB W1 w' (upd f 3) Y K S L Q V v0 v1 v2 K v4 v5 v6 where
  n7 := by simpa [upd] using h.n7
  n8 := by simpa [upd] using h.n8
  bel := h.bel
  f0 := by simpa [upd] using h.f0
  f1 := by simpa [upd] using h.f1
  f2 := by simpa [upd] using h.f2
  f3 := fun _ => rfl
  f4 := by simpa [upd] using h.f4
  f5 := by simpa [upd] using h.f5
  f6 := by simpa [upd] using h.f6
  c5 := fun hx => by have := h.c5 (by simpa [upd] using hx); simp [upd, this]
  c6 := fun hx => by have := h.c6 (by simpa [upd] using hx); simp [upd, this]
theorem PB.s4 (h : PB W1 w' f Y K S L Q V v0 v1 v2 v3 v4 v5 v6) : PB W1 w' (upd f 4) Y K S L Q V v0 v1 v2 v3 L v5 v6 where
  n7 := by simpa [upd] using h.n7
  n8 := by simpa [upd] using h.n8
  bel := h.bel
  f0 := by simpa [upd] using h.f0
  f1 := by simpa [upd] using h.f1
  f2 := by simpa [upd] using h.f2
  f3 := by simpa [upd] using h.f3
  f4 := fun _ => rfl
  f5 := by simpa [upd] using h.f5
  f6 := by simpa [upd] using h.f6
  c5 := fun hx => by have := h.c5 (by simpa [upd] using hx); simp [upd, this]
  c6 := fun hx => by have := h.c6 (by simpa [upd] using hx); simp [upd, this]
theorem PB.s5 (h : PB W1 w' f Y K S L Q V v0 v1 v2 v3 v4 v5 v6) (d3 : f 3 = true) (d4 : f 4 = true) : PB W1 w' (upd f 5) Y K S L Q V v0 v1 v2 v3 v4 Q v6 where
  n7 := by simpa [upd] using h.n7
  n8 := by simpa [upd] using h.n8
  bel := h.bel
  f0 := by simpa [upd] using h.f0
  f1 := by simpa [upd] using h.f1
  f2 := by simpa [upd] using h.f2
  f3 := by simpa [upd] using h.f3
  f4 := by simpa [upd] using h.f4
  f5 := fun _ => rfl
  f6 := by simpa [upd] using h.f6
  c5 := fun _ => ⟨by simp [upd, d3], by simp [upd, d4]⟩
  c6 := fun hx => by have := h.c6 (by simpa [upd] using hx); simp [upd, this]
theorem PB.s6 (h : PB W1 w' f Y K S L Q V v0 v1 v2 v3 v4 v5 v6) (d1 : f 1 = true) (d2 : f 2 = true) (d5 : f 5 = true) : PB W1 w' (upd f 6) Y K S L Q V v0 v1 v2 v3 v4 v5 V where
  n7 := by simpa [upd] using h.n7
  n8 := by simpa [upd] using h.n8
  bel := h.bel
  f0 := by simpa [upd] using h.f0
  f1 := by simpa [upd] using h.f1
  f2 := by simpa [upd] using h.f2
  f3 := by simpa [upd] using h.f3
  f4 := by simpa [upd] using h.f4
  f5 := by simpa [upd] using h.f5
  f6 := fun _ => rfl
  c5 := fun hx => by have := h.c5 (by simpa [upd] using hx); simp [upd, this]
  c6 := fun _ => ⟨by simp [upd, d1], by simp [upd, d2], by simp [upd, d5]⟩
theorem done_all (h : PB W1 w' f Y K S L Q V v0 v1 v2 v3 v4 v5 v6) (d0 : f 0 = true) (d6 : f 6 = true) (j : Nat) (hj : j < 8) : (if 7 = j then true else f j) = true := by
  have h6 := h.c6 d6
  have h5 := h.c5 h6.2.2
  have hc : j = 0 ∨ j = 1 ∨ j = 2 ∨ j = 3 ∨ j = 4 ∨ j = 5 ∨ j = 6 ∨ j = 7 := by omega
  rcases hc with rfl | rfl | rfl | rfl | rfl | rfl | rfl | rfl <;> simp [d0, d6, h6, h5]
theorem PB.world (h : PB W1 w' f Y K S L Q V v0 v1 v2 v3 v4 v5 v6) (hb : Below w'.heap.size w' w2) : PB W1 w2 f Y K S L Q V v0 v1 v2 v3 v4 v5 v6 := { h with bel := below_two h.bel hb }
end
set_option linter.unusedSimpArgs false in
set_option maxRecDepth 100000 in
set_option maxHeartbeats 4000000 in
theorem blocks_in (l bd bl n cap : Nat) (ao : Option Addr) (xs : List Int) (w : World) (hr : Rd w ao n xs) (hb : isBytes xs = true) (hn : n ≤ 868) (hcap : n ≤ cap) (hcap2 : cap ≤ 9223372036854775807)
    (M : Nat → Obj → Prop) (J Jx : Nat → World → Prop) (W : World) (hw : Low w W) (hws : w.heap.size ≤ W.heap.size) (hl : l < W.heap.size)
    (hM : ∀ k o, W.heap.size ≤ k → notE 2 o = true → M k o) (hMw : ∀ k o, k < w.heap.size → M k o) (hlw : w.heap.size ≤ l)
    (hMl : M bl (.cells #[.int .i64 ((blocksOf n : Int) - 1)] 2 (0, 0))) (hbl : bl ≠ l)
    (hJ : OwnFrom W.heap.size J) (hJx : OwnFrom W.heap.size Jx) (cd : Boxed W bd 35 (.slice ao n cap)) (cl : Boxed W bl 2 (.int .i64 ((blocksOf n : Int) - 1)))
    (hY : ∀ k x W1, k < blocksOf n → x = blockOf xs k → J k W1 → YieldAt Fence.wide 8 Tryz.prog l (blkEnc x) W1 fun e W' => Keeps (fun k o => k ≠ l ∧ M k o) W1 W' ∧
      ((e = .returned (.bool true) ∧ J (k + 1) W') ∨ (e = .returned (.bool false) ∧ Jx (k + 1) W'))) (h0 : J 0 W) :
    CallsIn Fence.wide 9 Tryz.prog 188 #[.func (.yield l) #[] #[], .pointer (some ⟨bd, 0, none⟩), .pointer (some ⟨bl, 0, none⟩)] W fun e W' => (∃ v, e = .returned v) ∧ (J (blocksOf n) W' ∨ ∃ k, 1 ≤ k ∧ k ≤ blocksOf n ∧ Jx k W') := by
  have hlen := hr.len
  obtain ⟨B, hB⟩ : ∃ B, blocksOf n = B := ⟨_, rfl⟩
  rw [hB] at hMl cl hY ⊢
  have hB1 : 1 ≤ B := by rw [← hB]; exact blocks_pos _
  have hB31 : B ≤ 31 := by rw [← hB]; exact blocks_31 hn
  have hBk : ∀ k, k < B → (k + 1 < B ↔ 28 * (k + 1) < n) := fun k hk => by unfold blocksOf at hB; omega
  refine callsIn_of_wp_marks Tryz.func188 rfl trivial ?_ rfl
  simp only [Tryz.ntmps188, List.size_toArray, List.length_cons, List.length_nil, Nat.reduceAdd, Nat.reduceSub, Array.replicate_succ, Array.replicate_zero, List.push_toArray, List.append_toArray, List.nil_append, List.cons_append]
  have dd := (cd.alloc (.cells #[.func (.yield l) #[] #[]] 193)).cell
  gi_wp2_with (refine ⟨trivial, ?_⟩; gi_at_call 189; refine (callsIn_wide.2 (partsOf_any ao n cap 28 _)).mono ?_; rintro e w' ⟨rfl, rfl⟩)
  have yB0 := ((Boxed.new W 193 (.func (.yield l) #[] #[])).alloc (.cells #[.slice ao n cap] 35)).alloc (.cells #[.int .i64 28] 3)
  have c1 := (Boxed.new (W.alloc (.cells #[.func (.yield l) #[] #[]] 193)) 35 (.slice ao n cap)).alloc (.cells #[.int .i64 28] 3)
  have c2 := Boxed.new ((W.alloc (.cells #[.func (.yield l) #[] #[]] 193)).alloc (.cells #[.slice ao n cap] 35)) 3 (.int .i64 28)
  have lB0 := ((cl.alloc (.cells #[.func (.yield l) #[] #[]] 193)).alloc (.cells #[.slice ao n cap] 35)).alloc (.cells #[.int .i64 28] 3)
  have hb2 : Below W.heap.size W (((W.alloc (.cells #[.func (.yield l) #[] #[]] 193)).alloc (.cells #[.slice ao n cap] 35)).alloc (.cells #[.int .i64 28] 3)) := (((Below.refl _ W).alloc (Nat.le_refl _) _).alloc (by simp) _).alloc (by simp; omega) _
  simp only [World.size_alloc] at c1 c2
  have hsz : (((W.alloc (.cells #[.func (.yield l) #[] #[]] 193)).alloc (.cells #[.slice ao n cap] 35)).alloc (.cells #[.int .i64 28] 3)).heap.size = W.heap.size + 3 := by simp
  generalize ((W.alloc (.cells #[.func (.yield l) #[] #[]] 193)).alloc (.cells #[.slice ao n cap] 35)).alloc (.cells #[.int .i64 28] 3) = WA at yB0 c1 c2 lB0 hb2 hsz ⊢
  have hJ0 : J 0 WA := OwnFrom.still hJ h0 hb2
  have hlow0 := hw.still hws hb2
  have hJA : OwnFrom WA.heap.size J := OwnFrom.more hJ (by omega)
  have hJxA : OwnFrom WA.heap.size Jx := OwnFrom.more hJx (by omega)
  refine wpIn_range (n := 9) (gf := 213) (lb := #[.pointer (some ⟨W.heap.size + 1, 0, none⟩), .pointer (some ⟨W.heap.size + 1 + 1, 0, none⟩)]) rfl (enters_of Tryz.func213 (by kernel_rfl) rfl)
    (parts_seq (W.heap.size + 1) (W.heap.size + 1 + 1) 28 B n cap ao xs w WA hr hcap hcap2 (by omega) (by omega) (by omega) hB1 (by omega) hBk (fun k o => k ≠ l ∧ M k o) ⟨by omega, hM _ _ (by omega) (by decide)⟩ c1 c2) (Below.refl _ _)
    (fun k o hk hc => ⟨by omega, hM k o (by omega) (notE_of_not hc)⟩) (fun _ => rfl)
    (fun k W' => (J k W' ∧ Boxed W' W.heap.size 193 (.func (.yield l) #[] #[])) ∧ (Boxed W' bl 2 (.int .i64 ((B : Int) - 1)) ∧ (Low w W' ∧ w.heap.size ≤ W'.heap.size)))
    (fun c k W' => c = .ret ∧ Jx k W')
    (OwnFrom.and (OwnFrom.and hJA (own_boxed _ _ _ _)) (OwnFrom.and (own_boxed _ _ _ _) (own_low (by omega))))
    (fun c s A Bw row h hg hrw => ⟨h.1, hJxA s A Bw row h.2 hg hrw⟩)
    ⟨⟨hJ0, yB0⟩, lB0, hlow0, by omega⟩
    (fun k x a' _ => a' = { tmps := #[.func (.yield l) #[] #[], .pointer (some ⟨bd, 0, none⟩), .pointer (some ⟨bl, 0, none⟩), .pointer (some ⟨W.heap.size, 0, none⟩), .int .i64 (x.1 : Int), .slice x.2.1 x.2.2.1 x.2.2.2, .slice ao n cap, .func (.func 213) #[] #[.pointer (some ⟨W.heap.size + 1, 0, none⟩), .pointer (some ⟨W.heap.size + 1 + 1, 0, none⟩)], .int .i64 (x.1 : Int), .slice x.2.1 x.2.2.1 x.2.2.2, undef, undef, undef, undef, undef, undef, undef, undef, undef], defers := [] })
    (fun _ _ _ _ _ _ _ hs _ _ => hs)
    ?assign ?body ?done ?stop
  case assign =>
    rintro l2 k x W1 K hk hx hI hK
    dsimp only [partEnc]
    gi_wp2
    exact hK _ _ (Keeps.refl _) hI rfl
  case body =>
    rintro l2 k ⟨k', a, m, c⟩ a' W1 hl2 hk ⟨rfl, hrp, hmc, hc9⟩ ⟨⟨hJ1, yB⟩, lB, hlow, hls⟩ rfl
    dsimp only at hrp hmc hc9 hk ⊢
    have hmx : Tryz.prog.follows .mixedOrders = true := by kernel_rfl
    have hpl : (partOf xs k').length = m := hrp.len
    have hrd1 := hlow.rd hrp
    change Rd W1 a m (partOf xs k') at hrd1
    have hhd := head_is xs k'
    rw [hlen, hB] at hhd
    have hhb := head_bytes (k := k') hb (by omega) (by omega)
    have hpl28 : (partOf xs k').length ≤ 28 := by rw [part_len]; omega
    have hnb := fun W2 h => newBlock_any k' (decide (k' + 1 = B)) a c (partOf xs k') W2 h (by omega) hpl28 (by rw [hhd]; exact hhb)
    rw [hhd, hpl] at hnb
    change ∀ W2, _ → Calls _ _ _ _ (fun e w' => e = .returned (blkVal (blockOf xs k')) ∧ Below W2.heap.size W2 w') at hnb
    have HY := Lib.hid (fun W2 h => hY k' (blockOf xs k') W2 hk rfl h)
    obtain ⟨V, hV⟩ : ∃ V, blkVal (blockOf xs k') = V := ⟨_, rfl⟩
    unfold blkEnc at HY
    rw [hV] at hnb HY
    obtain ⟨q, hq⟩ : ∃ q, decide (k' + 1 = B) = q := ⟨_, rfl⟩
    rw [hq] at hnb
    have hqe : ((k' : Int) == (B : Int) - 1) = q := by rw [← hq]; by_cases h : k' + 1 = B <;> simp [h] <;> omega
    have HNB := Lib.hid hnb
    have RD := Lib.hid hrd1
    have hd3 := yB.cell
    have hdl := lB.cell
    have HJ1 := Lib.hid hJ1
    have HLOW := Lib.hid (And.intro hlow hls)
    have HYB := Lib.hid yB; have HLB := Lib.hid lB
    clear hnb hhd hhb hpl28 hV hq hrd1 hrp hpl hJ1 hlow hls hmc hc9 yB lB
    gi_wp2
    refine wpIn_region_any (by assumption) (wpAnyIn_inv (fun listed a' w' => listed.size = 9 ∧ ∃ v0 v1 v2 v3 v4 v5 v6 v7 v8 : Value, a' = ⟨#[.func (.yield l) #[] #[], .pointer (some ⟨bd, 0, none⟩), .pointer (some ⟨bl, 0, none⟩), .pointer (some ⟨W.heap.size, 0, none⟩), .int .i64 (k' : Int), .slice a m c, .slice ao n cap, .func (.func 213) #[] #[.pointer (some ⟨W.heap.size + 1, 0, none⟩), .pointer (some ⟨W.heap.size + 1 + 1, 0, none⟩)], .int .i64 (k' : Int), .slice a m c, v0, v1, v2, v3, v4, v5, v6, v7, v8], []⟩ ∧ (PB W1 w' (fl listed) (.func (.yield l) #[] #[]) (.int .i64 (k' : Int)) (.slice a m c) (.int .i64 ((B : Int) - 1)) (.bool q) V v0 v1 v2 v3 v4 v5 v6 ∨ (∀ i, i < 8 → fl listed i = true) ∧ ∃ v, v7 = .bool v ∧ (Keeps (fun k o => k ≠ l ∧ M k o) W1 w' ∧ ((v = true ∧ J (k' + 1) w') ∨ (v = false ∧ Jx (k' + 1) w'))) ∧ (fl listed 8 = true → v8 = .bool (!v)))) ?_ ?_ _ _ _ _ (by decide) ?_)
    · rintro listed a' w' ⟨hsz9, v0, v1, v2, v3, v4, v5, v6, v7, v8, rfl, h⟩ i hi K hK
      obtain ⟨hi1, ho, ha⟩ := ready_mem hi
      clear hi
      have hi2 : i < 9 := hi1
      clear hi1
      rcases h with h | ⟨hall, v, rfl, hph, -⟩
      · have hc : i = 0 ∨ i = 1 ∨ i = 2 ∨ i = 3 ∨ i = 4 ∨ i = 5 ∨ i = 6 ∨ i = 7 ∨ i = 8 := by omega
        rcases hc with rfl | rfl | rfl | rfl | rfl | rfl | rfl | rfl | rfl
        · clear ha
          refine wpOpIn_of rfl rfl ?_
          have hd3' := (boxed_below HYB.out h.bel).cell
          gi_wp2
          exact ⟨by rw [Array.size_setIfInBounds]; exact hsz9, _, _, _, _, _, _, _, _, _, rfl, .inl (by rw [fl_upd ho]; exact h.s0)⟩
        · clear ha
          refine wpOpIn_of rfl rfl ?_
          gi_wp2
          exact ⟨by rw [Array.size_setIfInBounds]; exact hsz9, _, _, _, _, _, _, _, _, _, rfl, .inl (by rw [fl_upd ho]; exact h.s1)⟩
        · clear ha
          refine wpOpIn_of rfl rfl ?_
          gi_wp2
          exact ⟨by rw [Array.size_setIfInBounds]; exact hsz9, _, _, _, _, _, _, _, _, _, rfl, .inl (by rw [fl_upd ho]; exact h.s2)⟩
        · clear ha
          refine wpOpIn_of rfl rfl ?_
          gi_wp2
          exact ⟨by rw [Array.size_setIfInBounds]; exact hsz9, _, _, _, _, _, _, _, _, _, rfl, .inl (by rw [fl_upd ho]; exact h.s3)⟩
        · clear ha
          refine wpOpIn_of rfl rfl ?_
          have hdl' := (boxed_below HLB.out h.bel).cell
          gi_wp2
          exact ⟨by rw [Array.size_setIfInBounds]; exact hsz9, _, _, _, _, _, _, _, _, _, rfl, .inl (by rw [fl_upd ho]; exact h.s4)⟩
        · have d3 : fl listed 3 = true := (by simp [Region.binds] at ha; first | exact ha | exact ha.1 | exact ha.2 | exact ha.1.1 | exact ha.1.2 | exact ha.2.1 | exact ha.2.2)
          have d4 : fl listed 4 = true := (by simp [Region.binds] at ha; first | exact ha | exact ha.1 | exact ha.2 | exact ha.1.1 | exact ha.1.2 | exact ha.2.1 | exact ha.2.2)
          clear ha
          refine wpOpIn_of rfl rfl ?_
          obtain rfl := h.f3 d3
          obtain rfl := h.f4 d4
          gi_wp2
          exact ⟨by rw [Array.size_setIfInBounds]; exact hsz9, _, _, _, _, _, _, _, _, _, rfl, .inl (by rw [fl_upd ho]; exact h.s5 d3 d4)⟩
        · have d1 : fl listed 1 = true := (by simp [Region.binds] at ha; first | exact ha | exact ha.1 | exact ha.2 | exact ha.1.1 | exact ha.1.2 | exact ha.2.1 | exact ha.2.2)
          have d2 : fl listed 2 = true := (by simp [Region.binds] at ha; first | exact ha | exact ha.1 | exact ha.2 | exact ha.1.1 | exact ha.1.2 | exact ha.2.1 | exact ha.2.2)
          have d5 : fl listed 5 = true := (by simp [Region.binds] at ha; first | exact ha | exact ha.1 | exact ha.2 | exact ha.1.1 | exact ha.1.2 | exact ha.2.1 | exact ha.2.2)
          clear ha
          refine wpOpIn_of rfl rfl ?_
          obtain rfl := h.f1 d1
          obtain rfl := h.f2 d2
          obtain rfl := h.f5 d5
          have RD2 := RD.out.below h.bel
          gi_wp2
          refine ⟨trivial, ?_⟩
          refine (CallsIn.inRound l2 (callsIn_wide.2 (HNB.out _ RD2))).mono ?_
          rintro e w2 ⟨rfl, b2⟩
          gi_wp2
          exact ⟨by rw [Array.size_setIfInBounds]; exact hsz9, _, _, _, _, _, _, _, _, _, rfl, .inl (by rw [fl_upd ho]; exact (h.world b2).s6 d1 d2 d5)⟩
        · have d0 : fl listed 0 = true := (by simp [Region.binds] at ha; first | exact ha | exact ha.1 | exact ha.2 | exact ha.1.1 | exact ha.1.2 | exact ha.2.1 | exact ha.2.2)
          have d6 : fl listed 6 = true := (by simp [Region.binds] at ha; first | exact ha | exact ha.1 | exact ha.2 | exact ha.1.1 | exact ha.1.2 | exact ha.2.1 | exact ha.2.2)
          clear ha
          refine wpOpIn_of rfl rfl ?_
          obtain rfl := h.f0 d0
          obtain rfl := h.f6 d6
          have hJ2 := OwnFrom.still hJ HJ1.out h.bel
          obtain ⟨fn, tmps, assign, body, hy, hR⟩ := HY.out w' hJ2
          gi_wp2
          refine (round_any l2 hR).mono ?_
          rintro e W3 ⟨hkp, hv⟩
          obtain ⟨v, rfl, hph⟩ : ∃ v : Bool, e = .returned (.bool v) ∧ ((v = true ∧ J (k' + 1) W3) ∨ (v = false ∧ Jx (k' + 1) W3)) := by
            rcases hv with ⟨rfl, h1⟩ | ⟨rfl, h1⟩
            · exact ⟨true, rfl, .inl ⟨rfl, h1⟩⟩
            · exact ⟨false, rfl, .inr ⟨rfl, h1⟩⟩
          clear hv
          gi_wp2
          exact ⟨by rw [Array.size_setIfInBounds]; exact hsz9, _, _, _, _, _, _, _, _, _, rfl, .inr ⟨fun j hj => by rw [fl_upd ho]; unfold upd; exact done_all h d0 d6 j hj, v, rfl, ⟨(Keeps.still h.bel).trans hkp, hph⟩, fun h8 => by rw [fl_upd ho] at h8; simp [upd, h.n8] at h8⟩⟩
        · have d7 : fl listed 7 = true := (by simp [Region.binds] at ha; exact ha)
          rw [h.n7] at d7
          cases d7
      · have hi8 : i = 8 := by
          by_cases h8 : i < 8
          · have := hall i h8; rw [fl_no ho] at this; cases this
          · omega
        subst hi8
        clear ha
        refine wpOpIn_of rfl rfl ?_
        gi_wp2
        exact ⟨by rw [Array.size_setIfInBounds]; exact hsz9, _, _, _, _, _, _, _, _, _, rfl, .inr ⟨fun j hj => by rw [fl_upd ho]; unfold upd; split; rfl; exact hall j hj, v, rfl, hph, fun _ => rfl⟩⟩
    · rintro listed a' w' ⟨hsz9, v0, v1, v2, v3, v4, v5, v6, v7, v8, rfl, h⟩ hnil
      have hall := ready_nil (by kernel_rfl) hsz9 hnil
      rcases h with h | ⟨-, v, rfl, ⟨hkp, hph⟩, h8⟩
      · have h7 := hall 7 (by decide); rw [h.n7] at h7; cases h7
      · have h88 := h8 (hall 8 (by decide))
        subst h88
        clear hall hnil h8
        rcases hph with ⟨rfl, hJ3⟩ | ⟨rfl, hJ3⟩
        · gi_wp2
          exact ⟨hkp, ⟨hJ3, hkp.boxed HYB.out ⟨by omega, hM _ _ (Nat.le_refl _) rfl⟩⟩, hkp.boxed HLB.out ⟨hbl, hMl⟩, HLOW.out.1.keeps hkp (fun i o hi => ⟨by omega, hMw i o hi⟩), Nat.le_trans HLOW.out.2 hkp.size⟩
        · gi_wp2
          exact ⟨hkp, rfl, hJ3⟩
    · exact ⟨by simp, _, _, _, _, _, _, _, _, _, rfl, .inl ⟨fl_none _ _, fl_none _ _, (Below.refl _ _).drew, (fun h => by rw [fl_none] at h; cases h), (fun h => by rw [fl_none] at h; cases h), (fun h => by rw [fl_none] at h; cases h), (fun h => by rw [fl_none] at h; cases h), (fun h => by rw [fl_none] at h; cases h), (fun h => by rw [fl_none] at h; cases h), (fun h => by rw [fl_none] at h; cases h), (fun h => by rw [fl_none] at h; cases h), (fun h => by rw [fl_none] at h; cases h)⟩⟩
  case done =>
    rintro D W' hD ⟨⟨hJ1, -⟩, -⟩ hK
    gi_wp2
    refine ⟨by simp, .inl ⟨_, _, rfl, run_takeDeferred hK, ?_⟩⟩
    exact ⟨_, results_none rfl _ _ _, ⟨_, rfl⟩, .inl (hJ.putObj _ hJ1 (by omega) hK rfl)⟩
  case stop =>
    rintro D c k W' hD h1 h2 ⟨rfl, hx⟩ hK
    gi_wp2
    refine ⟨by simp, .inl ⟨_, _, rfl, run_takeDeferred hK, ?_⟩⟩
    exact ⟨_, results_none rfl _ _ _, ⟨_, rfl⟩, .inr ⟨k, h1, h2, hJx.putObj _ hx (by omega) hK rfl⟩⟩
end

section
open Go.RowKit
section
variable {F : Fence} {m : Nat} {P : Program} {E T : Nat} {ops : Array Oper} {rest : List Oper} {o : Oper} {a : Act} {w : World} {K : Act → World → Prop} {Q : Exit → Act → World → Prop}
theorem run_append_list (rt : TypeId) (base : Nat) (ht : P.underlying T = some (.slice E)) (hi : Info64 P E) (v : Value) (xs : List Int) (hown : Own E w base v xs) (ao : Option Addr) (n c : Nat) (ys : List Int) (hr : Rd w ao n ys) (hlen : xs.length + n ≤ 4294967296) (hbase : base ≤ w.heap.size) :
    ∃ v' w', (Builtin.append_ #[T, T] rt #[v, .slice ao n c]).run P w = .ok v' w' ∧ Own E w' base v' (xs ++ ys) ∧ w.grownBy w' v.ownBlock := by
  obtain ⟨i0, hi, hz0, hz1, hz2⟩ := info_parts hi
  rcases ao with _ | ad
  · have hn : n = 0 := by
      rcases Nat.eq_zero_or_pos n with h0 | h0
      · exact h0
      · obtain ⟨_, _, e, _⟩ := hr.here h0; cases e
    subst hn
    have hys : ys = [] := List.length_eq_zero_iff.1 hr.len
    subst hys
    have hrun : (Builtin.append_ #[T, T] rt #[v, .slice none 0 c]).run P w = .ok v w := by
      have hown0 := hown
      rcases hown0.2 with ⟨rfl, _⟩ | ⟨g, cap, cur, rfl, _, _, hnc, _⟩
      · simp [Builtin.append_, run_underlying ht, sizeOf, typeInfo, hi, Builtin.lenOf, Builtin.firstCells]
      · simp [Builtin.append_, run_underlying ht, sizeOf, typeInfo, hi, Builtin.lenOf, Builtin.firstCells, hnc, storeCells]
    exact ⟨v, w, hrun, by simpa using hown, ⟨rfl, rfl, rfl, Nat.le_refl _, fun _ _ _ => rfl⟩⟩
  · have hcells : ∀ j u, (ys.map (Value.int .i64))[j]? = some u → w.cell? (ad.add j) = some u := by
      intro j u hu
      rw [List.getElem?_map, Option.map_eq_some_iff] at hu
      obtain ⟨y, hy, rfl⟩ := hu
      have hj : j < n := by have := (List.getElem?_eq_some_iff.1 hy).1; have := hr.len; omega
      obtain ⟨b, off, e, hc⟩ := hr.here (by omega)
      cases e
      rw [Addr.add_lit, hc j hj]
      simp [List.getD, hy]
    obtain ⟨v', w', hrun, r1, r2, -⟩ := run_append_own (P := P) w base T rt E i0 (.int .i64 0) 1 8 ht hi hz0 hz1 hz2 rfl (by decide) v xs.length _ hown ad n c (ys.map (Value.int .i64)) (by rw [List.length_map, hr.len, Nat.mul_one]) hcells (ints_oneCell _ _) (by unfold maxLen; omega) (by omega) hbase
    refine ⟨v', w', hrun, ?_, r2⟩
    unfold Own
    rw [List.length_append, hr.len, List.map_append]
    exact r1
theorem op_append_list (s x : Operand) (hop : o.op = .call { callee := .builtin .append, args := #[s, x], argTypes := #[T, T] }) (base : Nat) (ht : P.underlying T = some (.slice E)) (hi : Info64 P E)
    (v : Value) (xs : List Int) (hs : a.eval s = v) (hown : Own E w base v xs) (ao : Option Addr) (n c : Nat) (ys : List Int) (hx : a.eval x = .slice ao n c) (hr : Rd w ao n ys) (hlen : xs.length + n ≤ 4294967296) (hbase : base ≤ w.heap.size)
    (h : ∀ v' w', Own E w' base v' (xs ++ ys) → w.grownBy w' v.ownBlock → K (a.put o.dst v') w') : o.wpIn F m P a w K Q := by
  obtain ⟨v', w', hrun, r1, r2⟩ := run_append_list (P := P) (T := T) o.type base ht hi v xs hown ao n c ys hr hlen hbase
  unfold Oper.wpIn
  refine ⟨?_, ?_⟩
  · simp [Oper.about, hop, resolve, Target.leads, Sem.run_pure]
  · rw [Oper.semAt_plain F _ _ (by rw [hop]; intro c hc'; cases hc')]
    simp [execOp, hop, resolve, invoke, builtin, hs, hx, hrun, Result.andThen]
    exact h v' w' r1 r2
theorem op_store_row (ty : TypeId) (x y : Operand) (hop : o.op = .store ty x y) (g : Nat) (cells : Array Value) (hx : a.eval x = .pointer (some ⟨g, 0, none⟩)) (hy : a.eval y = .agg cells)
    (t : TypeId) (old : Array Value) (hg : w.heap[g]? = some (.cells old t (0, 0))) (hi : (P.info? ty).map (·.size) = some cells.size) (hold : old.size = cells.size) (h1 : cells.all (·.oneCell') = true)
    (h : K (a.put o.dst undef) (w.setRow g cells)) : o.wpIn F m P a w K Q := by
  unfold Oper.wpIn
  refine ⟨?_, ?_⟩
  · simp [Oper.about, hop]
  · rw [Oper.semAt_plain F _ _ (by rw [hop]; intro c hc'; cases hc')]
    unfold execOp
    simp only [hop, hx, hy, Instr.storeAt, Instr.sureAddr, Sem.run_bind, Sem.run_pure, Result.andThen_ok, run_storeVar_row w g t ty old cells hg hi hold h1]
    exact h
theorem listIn_store_row (hgd : o.guard = none) (ty : TypeId) (x y : Operand) (hop : o.op = .store ty x y) (g : Nat) (cells : Array Value) (hx : a.eval x = .pointer (some ⟨g, 0, none⟩)) (hy : a.eval y = .agg cells)
    (t : TypeId) (old : Array Value) (hg : w.heap[g]? = some (.cells old t (0, 0))) (hi : (P.info? ty).map (·.size) = some cells.size) (hold : old.size = cells.size) (h1 : cells.all (·.oneCell') = true)
    (h : wpListIn F m P ops Q rest (a.put o.dst undef) (w.setRow g cells)) : wpListIn F m P ops Q (o :: rest) a w :=
  wpListIn_plain hgd fun _ hK => op_store_row ty x y hop g cells hx hy t old hg hi hold h1 (hK _ _ h)
end
def HoldsL (E t base b : Nat) (W : World) (xs : List Int) : Prop := ∃ v, Boxed W b t v ∧ Own E W base v xs
theorem own_holds {β : Type} (E t base b B : Nat) (f : β → List Int) : OwnFrom B (fun (s : β) W => HoldsL E t base b W (f s)) := by
  rintro s X Y row ⟨v, hv, hr⟩ hg hrow
  refine ⟨v, hv.kept hg (fun e => ?_), hr.only hg ?_⟩
  · obtain ⟨_, o, ho, hc⟩ := hrow b e.symm
    rw [show X.heap[b]? = _ from hv] at ho; cases ho; cases hc
  · rcases hr.2 with ⟨rfl, _⟩ | ⟨g, cap, cur, rfl, _, hgb, _⟩
    · exact .inl rfl
    · refine .inr fun e' => ?_
      obtain ⟨_, o, ho, hc⟩ := hrow g (by simpa [Value.ownBlock] using e'.symm)
      rw [hgb] at ho; cases ho; cases hc
theorem HoldsL.still {E t base b : Nat} {A B : World} {xs : List Int} (h : HoldsL E t base b A xs) (hb : Below A.heap.size A B) : HoldsL E t base b B xs := by
  obtain ⟨v, hv, ho⟩ := h
  exact ⟨v, boxed_below hv hb, ho.below hb⟩
theorem HoldsL.push {E t base b : Nat} {A B : World} {v v' : Value} {xs ys : List Int} (hte : t ≠ E) (hbb : b < base) (hv : Boxed A b t v) (ho : Own E A base v xs) (hg : A.grownBy B v.ownBlock) (ho' : Own E B base v' ys) :
    Boxed B b t v ∧ HoldsL E t base b (B.setCell ⟨b, 0, none⟩ v') ys := by
  have h1 : Boxed B b t v := hv.kept hg (hv.not_row hte ho)
  refine ⟨h1, v', h1.set v', ho'.only (grownBy_setCell' B b v') ?_⟩
  cases hk : v'.ownBlock with
  | none => exact .inl rfl
  | some k => exact .inr (fun e => by have := (ho'.block k hk).1; cases e; omega)
end

section
open Go.RowKit Go.Shelf
attribute [local go_sem] Oper.semAt_some
theorem blocksOf_any (ao : Option Addr) (n cap : Nat) (w : World) (hn : n ≤ 1024) : Calls Tryz.prog 150 #[.slice ao n cap] w fun e w' =>
    e = .returned (.func (.func 188) #[] #[.pointer (some ⟨w.heap.size, 0, none⟩), .pointer (some ⟨w.heap.size + 1, 0, none⟩)]) ∧ Boxed w' w.heap.size 35 (.slice ao n cap) ∧ Boxed w' (w.heap.size + 1) 2 (.int .i64 ((blocksOf n : Int) - 1)) ∧ Below w.heap.size w w' ∧ w'.heap.size = w.heap.size + 2 := by
  have hc := fun W => blockCount_any n W (by omega)
  have hb1 := blocks_pos n
  have hbn : blocksOf n ≤ 1024 := by unfold blocksOf; omega
  generalize blocksOf n = B at *
  have bx := (Boxed.new w 35 (.slice ao n cap)).cell
  have bx2 := Boxed.new w 35 (.slice ao n cap)
  have hd : Below w.heap.size w (w.alloc (.cells #[.slice ao n cap] 35)) := (Below.refl _ _).alloc (Nat.le_refl _) _
  go_enter Tryz.func150, Tryz.ntmps150
  go_wp2_with fail
  refine (hc _).mono ?_
  rintro e w1 ⟨rfl, rfl⟩
  have by0 := Boxed.new (w.alloc (.cells #[.slice ao n cap] 35)) 2 (.int .i64 ((B : Int) - 1))
  rw [World.size_alloc] at by0
  go_wp2
  go_ret
  exact ⟨rfl, bx2.alloc _, by0, hd.alloc (by simp) _, by simp⟩
theorem blocks_seq (bd bl n cap : Nat) (ao : Option Addr) (xs : List Int) (w w0 : World) (hr : Rd w ao n xs) (hb : isBytes xs = true) (hn : n ≤ 868) (hcap : n ≤ cap) (hcap2 : cap ≤ 9223372036854775807)
    (M : Nat → Obj → Prop) (hw : Below w.heap.size w w0) (hM : ∀ k o, w0.heap.size ≤ k → notE 2 o = true → M k o) (hMw : ∀ k o, k < w.heap.size → M k o)
    (hMl : M bl (.cells #[.int .i64 ((blocksOf n : Int) - 1)] 2 (0, 0))) (cd : Boxed w0 bd 35 (.slice ao n cap)) (cl : Boxed w0 bl 2 (.int .i64 ((blocksOf n : Int) - 1))) :
    SeqR 9 Tryz.prog 188 #[.pointer (some ⟨bd, 0, none⟩), .pointer (some ⟨bl, 0, none⟩)] blkEnc (fun k x => x = blockOf xs k) M (blocksOf n) w0 := fun l J Jx W hW hl1 hl2 hJ hJx hY h0 =>
  blocks_in l bd bl n cap ao xs w hr hb hn hcap hcap2 M J Jx W (Low.of_below (below_two hw hW)) (Nat.le_trans hw.size hW.size) hl2 (fun k o hk ho => hM k o (Nat.le_trans hW.size hk) ho) hMw (Nat.le_trans hw.size hl1) hMl (by have := cl.lt; omega) hJ hJx (boxed_below cd hW) (boxed_below cl hW) hY h0
theorem own_size {β : Type} (m B : Nat) : OwnFrom B (fun (_ : β) W => m ≤ W.heap.size) := fun _ _ _ _ h hg _ => Nat.le_trans h hg.size
theorem own_cells {E : Nat} {W : World} {base : Nat} {v : Value} {xs : List Int} (h : Own E W base v xs) {j : Nat} (hj : v.ownBlock = some j) : base ≤ j ∧ ∃ cur, W.heap[j]? = some (.cells cur E (0, 0)) := by
  rcases h.2 with ⟨rfl, _⟩ | ⟨g, cap, cur, rfl, hb, hgb, _⟩
  · simp [Value.ownBlock] at hj
  · obtain rfl : g = j := by simpa [Value.ownBlock] using hj
    exact ⟨hb, cur, hgb⟩
def keepM (E n b : Nat) (k : Nat) (o : Obj) : Prop := (k < n ∧ k ≠ b) ∨ (n ≤ k ∧ notE E o = true)
theorem keep_push {E n b : Nat} {A B : World} {v : Value} {xs : List Int} (ho : Own E A n v xs) (hg : A.grownBy B v.ownBlock) (hb : b < n) (v' : Value) : Keeps (keepM E n b) A (B.setCell ⟨b, 0, none⟩ v') :=
  (Keeps.of_grown hg (fun j o hj hjo hm => by
    obtain ⟨h1, cur, h2⟩ := own_cells ho hj
    rw [h2] at hjo; cases hjo
    rcases hm with hm | hm
    · omega
    · simp [notE] at hm)).trans (Keeps.set _ _ (fun o hm => by rcases hm with hm | hm <;> omega))
theorem blk_own {β : Type} (b : Nat) (xs : List Int) (B : Nat) : OwnFrom B (fun (_ : β) W => BlkAt W b xs) := fun s X Y row h hg hr => ArrAt.grown h hg (fun e => by
  obtain ⟨_, o, ho, hc⟩ := hr b e
  rw [show X.heap[b]? = _ from h] at ho; cases ho; cases hc)
set_option linter.unusedSimpArgs false in
set_option maxRecDepth 100000 in
set_option maxHeartbeats 4000000 in
theorem image_in (ao : Option Addr) (n cap : Nat) (xs : List Int) (w : World) (hr : Rd w ao n xs) (hb : isBytes xs = true) (hn : n ≤ 868) (hcap : n ≤ cap) (hcap2 : cap ≤ 9223372036854775807) :
    Calls Tryz.prog 92 #[.slice ao n cap] w (Makes2 2 w (image9 xs) 0) := by
  have hlen := hr.len
  have hall : image9 xs = imgTo xs (blocksOf n) := by rw [← imgTo_all, hlen]
  rw [hall]
  have hisb := fun W h => isBytes_any ao n cap xs W h (by omega)
  rw [hb] at hisb
  have hle : ¬ ((868 : Int) < (n : Int)) := by omega
  have hB31 := blocks_31 hn
  refine (callsIn_wide (n := 10)).1 ?_
  refine callsIn_of_wp_marks Tryz.func92 rfl trivial ?_ rfl
  simp only [Tryz.ntmps92, List.size_toArray, List.length_cons, List.length_nil, Nat.reduceAdd, Nat.reduceSub, Array.replicate_succ, Array.replicate_zero, List.push_toArray, List.append_toArray, List.nil_append, List.cons_append]
  gi_wp2_with (refine ⟨trivial, ?_⟩; gi_at_call 149; refine (callsIn_wide.2 (hisb _ hr)).mono ?_; rintro e w' ⟨rfl, rfl⟩)
  have b0 := Boxed.new w 35 (.slice none 0 0)
  have hb0 : Below w.heap.size w (w.alloc (.cells #[.slice none 0 0] 35)) := (Below.refl _ _).alloc (Nat.le_refl _) _
  refine ⟨trivial, (callsIn_wide.2 (blocksOf_any ao n cap _ (by omega))).mono ?_⟩
  rintro e w1 ⟨rfl, cd, cl, hb1, hs1⟩
  simp only [World.size_alloc] at cd cl hs1 ⊢
  have bi := boxed_below b0 hb1
  have hbw := below_two hb0 hb1
  clear hb0 b0 hb1
  gi_wp2
  refine wpIn_range (n := 10) (gf := 188) (lb := #[.pointer (some ⟨w.heap.size + 1, 0, none⟩), .pointer (some ⟨w.heap.size + 1 + 1, 0, none⟩)]) rfl (enters_of Tryz.func188 (by kernel_rfl) rfl)
    (blocks_seq (w.heap.size + 1) (w.heap.size + 1 + 1) n cap ao xs w w1 hr hb hn hcap hcap2 (keepM 2 w1.heap.size w.heap.size) hbw (fun k o hk ho => .inr ⟨hk, ho⟩) (fun k o hk => .inl ⟨by omega, by omega⟩) (.inl ⟨by omega, by omega⟩) cd cl) (Below.refl _ _)
    (fun k o hk hc => .inr ⟨hk, notE_of_not hc⟩) (fun _ => rfl)
    (fun k W' => HoldsL 2 35 w1.heap.size w.heap.size W' (imgTo xs k) ∧ (Below w.heap.size w W' ∧ w1.heap.size ≤ W'.heap.size))
    (fun _ _ _ => False)
    (OwnFrom.and (own_holds _ _ _ _ _ _) (OwnFrom.and (ownFrom_below (Nat.le_refl _) (by omega)) (own_size _ _)))
    (fun _ _ _ _ _ h _ _ => h)
    ⟨⟨_, bi, Own.nil_⟩, hbw, Nat.le_refl _⟩
    (fun k x a' W' => ∃ bx, w1.heap.size ≤ bx ∧ BlkAt W' bx x ∧ a' = { tmps := #[.slice ao n cap, undef, .slice none 0 0, .int .i64 0, .pointer (some ⟨w.heap.size, 0, none⟩), .pointer (some ⟨bx, 0, none⟩), .bool false, .slice ao n cap, .bool true, .bool false, .bool (decide ((868 : Int) < (n : Int))), .slice ao n cap, .int .i64 (n : Int), .bool (decide ((868 : Int) < (n : Int))), .slice ao n cap, .func (.func 188) #[] #[.pointer (some ⟨w.heap.size + 1, 0, none⟩), .pointer (some ⟨w.heap.size + 1 + 1, 0, none⟩)], blkVal x, undef, undef, undef, undef], defers := [] })
    (fun k x a' s A Bw row h hg hrw => by obtain ⟨bx, h1, h2, h3⟩ := h; exact ⟨bx, h1, blk_own (β := Unit) bx x w1.heap.size () A Bw row h2 hg hrw, h3⟩)
    ?assign ?body ?done ?stop
  case assign =>
    rintro l k x W1 K hk rfl ⟨hL, hB, hs1W⟩ hK
    dsimp only [blkEnc]
    have hbl := block_le xs k
    generalize blockOf xs k = X at hbl hK ⊢
    obtain ⟨C, hC⟩ : ∃ C, C = cellsI (blk X) := ⟨_, rfl⟩
    have I1 := Lib.hid (infoBlk_of hbl)
    have N1 := Lib.hid (cellsI_one (blk X))
    have I0 := Lib.hid (show (cellsI (blk [])).size = (cellsI (blk X)).size from by rw [cellsI_size, cellsI_size, blk_len hbl]; rfl)
    have hV : blkVal X = .agg C := by rw [hC]; rfl
    rw [← hC] at I1 N1 I0
    rw [hV] at hK ⊢
    obtain ⟨Z, hZ⟩ : ∃ Z, Z = cellsI (blk []) := ⟨_, rfl⟩
    have hzz : (#[.int .i64 0, .int .i64 0, .int .i64 0, .int .i64 0, .int .i64 0, .int .i64 0, .int .i64 0, .int .i64 0, .int .i64 0, .int .i64 0, .int .i64 0, .int .i64 0, .int .i64 0, .int .i64 0, .int .i64 0, .int .i64 0, .int .i64 0, .int .i64 0, .int .i64 0, .int .i64 0, .int .i64 0, .int .i64 0, .int .i64 0, .int .i64 0, .int .i64 0, .int .i64 0, .int .i64 0, .int .i64 0, .int .i64 0, .int .i64 0, .int .i64 0, .int .i64 0, .int .i64 0, .int .i64 0] : Array Value) = Z := by rw [hZ]; rfl
    rw [← hZ] at I0
    clear hZ
    have H0 := Lib.hid (heap_alloc_new W1 (.cells Z 164))
    have HC := Lib.hid hC
    clear hC hV hbl
    gi_wp2_with (with_reducible refine listIn_store_row rfl 164 (.tmp 5) (.tmp 16) rfl W1.heap.size C rfl rfl _ Z H0.out I1.out I0.out N1.out ?_)
    have hb2 : Below W1.heap.size W1 ((W1.alloc (.cells Z 164)).setRow W1.heap.size C) := below_setRow ((Below.refl _ _).alloc (Nat.le_refl _) _) (Nat.le_refl _) _
    have h9 := setRow_heap (W1.alloc (.cells Z 164)) W1.heap.size Z C _ _ H0.out
    rw [HC.out] at h9
    exact hK _ _ (Keeps.still hb2) ⟨hL.still hb2, below_two hB hb2, Nat.le_trans hs1W hb2.size⟩ ⟨W1.heap.size, hs1W, by rw [HC.out]; exact h9, rfl⟩
  case body =>
    rintro l k x a' W1 hl hk rfl ⟨⟨v, hv, ho⟩, hB, hs1W⟩ ⟨bx, hbx, hblk, rfl⟩
    have hmx : Tryz.prog.follows .mixedOrders = true := by kernel_rfl
    have hbl := block_le xs k
    have hac := imgTo_len xs k
    have hsu : imgTo xs (k + 1) = imgTo xs k ++ blockOf xs k := imgTo_succ xs k
    obtain ⟨X, hX⟩ : ∃ X, blockOf xs k = X := ⟨_, rfl⟩
    rw [hX] at hbl hsu hblk ⊢
    obtain ⟨acc, hacc⟩ : ∃ acc, imgTo xs k = acc := ⟨_, rfl⟩
    rw [hacc] at hac hsu ho
    have HBL := Lib.hid hbl; have HSU := Lib.hid hsu; have HAC := Lib.hid (show acc.length ≤ 2000 by omega)
    have HBK := Lib.hid (hblk.below (Below.drew (Below.refl W1.heap.size W1)) hblk.lt)
    have HV := Lib.hid (show Boxed W1.drew w.heap.size 35 v from hv)
    have HO := Lib.hid (ho.below (Below.drew (Below.refl W1.heap.size W1)))
    have HB2 := Lib.hid hB.drew
    have HS2 := Lib.hid (show w1.heap.size ≤ W1.drew.heap.size from hs1W)
    have HK2 := Lib.hid (Keeps.drew (M := keepM 2 w1.heap.size w.heap.size) W1)
    have HSZ := Lib.hid (show w.heap.size < w1.heap.size by omega)
    clear hbl hsu hac hblk hv ho hB hs1W hX hacc
    gi_wp2
    refine wpIn_region_any hmx ?_
    change wpAnyIn _ _ _ _ _ _ _ _ _ (World.drew _)
    generalize W1.drew = W2 at HBK HV HO HB2 HS2 HK2 ⊢
    have hcv := HV.out.cell
    refine wpAnyIn_ready (rs := [0, 1]) (by kernel_rfl) (by simp) (AllReadyIn.cons rfl (fun K hK => ?_) (AllReadyIn.cons rfl (fun K hK => ?_) AllReadyIn.nil))
    · go_simp
      refine hK _ _ ?_
      clear hK K
      try simp only [List.getElem_toArray, List.getElem_cons_succ, List.getElem_cons_zero, Act.put, List.setIfInBounds_toArray, List.set_cons_zero, List.set_cons_succ]
      refine wpAnyIn_ready (rs := [1]) (by kernel_rfl) (by simp) (AllReadyIn.cons rfl (fun K hK => ?_) AllReadyIn.nil)
      go_simp
      refine ⟨trivial, (CallsIn.inRound l (callsIn_wide.2 (list_any bx X _ HBK.out HBL.out))).mono ?_⟩
      rintro e w3 ⟨rfl, rfl⟩
      refine hK _ _ ?_
      clear hK K
      try simp only [List.getElem_toArray, List.getElem_cons_succ, List.getElem_cons_zero, Act.put, List.setIfInBounds_toArray, List.set_cons_zero, List.set_cons_succ]
      have HV3 := Lib.hid (show Boxed W2.drew w.heap.size 35 v from HV.out)
      have HO3 := Lib.hid (HO.out.below (Below.drew (Below.refl W2.heap.size W2)))
      have HR3 := Lib.hid ((HBK.out.rd HBL.out).below (Below.drew (Below.refl W2.heap.size W2)))
      have HS3 := Lib.hid (show w1.heap.size ≤ W2.drew.heap.size from HS2.out)
      have HB3 := Lib.hid HB2.out.drew
      have HK3 := Lib.hid (HK2.out.trans (Keeps.drew W2))
      generalize W2.drew = w3 at HV3 HO3 HR3 HS3 HB3 HK3 ⊢
      refine wpAnyIn_ready (rs := [2]) (by kernel_rfl) (by simp) (AllReadyIn.cons rfl (fun K hK => ?_) AllReadyIn.nil)
      rw [if_pos (by rfl)]
      refine op_append_list (.tmp 17) (.tmp 18) rfl w1.heap.size Tryz.underlying35 info64 v acc rfl HO3.out _ _ _ X rfl HR3.out (by have := HAC.out; have := HBL.out; omega) HS3.out ?_
      intro v' w4 o4 g4
      obtain ⟨p4, c4, rfl, o4, -⟩ := o4.get
      obtain ⟨hv4, hL4⟩ := HoldsL.push (by decide) HSZ.out HV3.out HO3.out g4 o4
      have hk4 := keep_push HO3.out g4 HSZ.out (.slice p4 (acc ++ X).length c4)
      have hz4 : w1.heap.size ≤ (w4.setCell ⟨w.heap.size, 0, none⟩ (.slice p4 (acc ++ X).length c4)).heap.size := by have := hk4.size; have := HS3.out; omega
      rw [List.length_append] at hL4 hk4 hz4
      have hb4 := only_below HB3.out g4 (Nat.le_trans HSZ.out HS3.out |> fun h => by omega) (fun j hj => by have := (HO3.out.block j hj).1; have := HSZ.out; omega)
      refine hK _ _ ?_
      clear hK K
      have hc4 := hv4.cell; have hf4 := hv4.frozen
      refine wpAnyIn_ready (rs := [3]) (by kernel_rfl) (by simp) (AllReadyIn.cons rfl (fun K hK => ?_) AllReadyIn.nil)
      go_simp
      refine hK _ _ ?_
      clear hK K
      refine wpAnyIn_done (by kernel_rfl) ?_ _
      gi_wp2
      exact ⟨HK3.out.trans hk4, by rw [HSU.out]; exact hL4, hb4.setCell (p := ⟨w.heap.size, 0, none⟩) (Nat.le_refl _) _, hz4⟩
    · go_simp
      refine ⟨trivial, (CallsIn.inRound l (callsIn_wide.2 (list_any bx X _ HBK.out HBL.out))).mono ?_⟩
      rintro e w3 ⟨rfl, rfl⟩
      refine hK _ _ ?_
      clear hK K
      try simp only [List.getElem_toArray, List.getElem_cons_succ, List.getElem_cons_zero, Act.put, List.setIfInBounds_toArray, List.set_cons_zero, List.set_cons_succ]
      have hcv3 : W2.drew.cell? ⟨w.heap.size, 0, none⟩ = some v := hcv
      refine wpAnyIn_ready (rs := [0]) (by kernel_rfl) (by simp) (AllReadyIn.cons rfl (fun K hK => ?_) AllReadyIn.nil)
      go_simp
      refine hK _ _ ?_
      clear hK K
      try simp only [List.getElem_toArray, List.getElem_cons_succ, List.getElem_cons_zero, Act.put, List.setIfInBounds_toArray, List.set_cons_zero, List.set_cons_succ]
      clear hcv3
      have HV3 := Lib.hid (show Boxed W2.drew w.heap.size 35 v from HV.out)
      have HO3 := Lib.hid (HO.out.below (Below.drew (Below.refl W2.heap.size W2)))
      have HR3 := Lib.hid ((HBK.out.rd HBL.out).below (Below.drew (Below.refl W2.heap.size W2)))
      have HS3 := Lib.hid (show w1.heap.size ≤ W2.drew.heap.size from HS2.out)
      have HB3 := Lib.hid HB2.out.drew
      have HK3 := Lib.hid (HK2.out.trans (Keeps.drew W2))
      generalize W2.drew = w3 at HV3 HO3 HR3 HS3 HB3 HK3 ⊢
      refine wpAnyIn_ready (rs := [2]) (by kernel_rfl) (by simp) (AllReadyIn.cons rfl (fun K hK => ?_) AllReadyIn.nil)
      rw [if_pos (by rfl)]
      refine op_append_list (.tmp 17) (.tmp 18) rfl w1.heap.size Tryz.underlying35 info64 v acc rfl HO3.out _ _ _ X rfl HR3.out (by have := HAC.out; have := HBL.out; omega) HS3.out ?_
      intro v' w4 o4 g4
      obtain ⟨p4, c4, rfl, o4, -⟩ := o4.get
      obtain ⟨hv4, hL4⟩ := HoldsL.push (by decide) HSZ.out HV3.out HO3.out g4 o4
      have hk4 := keep_push HO3.out g4 HSZ.out (.slice p4 (acc ++ X).length c4)
      have hz4 : w1.heap.size ≤ (w4.setCell ⟨w.heap.size, 0, none⟩ (.slice p4 (acc ++ X).length c4)).heap.size := by have := hk4.size; have := HS3.out; omega
      rw [List.length_append] at hL4 hk4 hz4
      have hb4 := only_below HB3.out g4 (Nat.le_trans HSZ.out HS3.out |> fun h => by omega) (fun j hj => by have := (HO3.out.block j hj).1; have := HSZ.out; omega)
      refine hK _ _ ?_
      clear hK K
      have hc4 := hv4.cell; have hf4 := hv4.frozen
      refine wpAnyIn_ready (rs := [3]) (by kernel_rfl) (by simp) (AllReadyIn.cons rfl (fun K hK => ?_) AllReadyIn.nil)
      go_simp
      refine hK _ _ ?_
      clear hK K
      refine wpAnyIn_done (by kernel_rfl) ?_ _
      gi_wp2
      exact ⟨HK3.out.trans hk4, by rw [HSU.out]; exact hL4, hb4.setCell (p := ⟨w.heap.size, 0, none⟩) (Nat.le_refl _) _, hz4⟩
  case done =>
    rintro D W' hD ⟨⟨v, hv, ho⟩, hB, hs1W⟩ hK
    have hc := hv.cell
    gi_wp2
    refine ⟨by simp, .inl ⟨_, _, rfl, run_takeDeferred hK, ?_⟩⟩
    exact ⟨_, results_tmp2 rfl _ _ _, v, rfl, (ho.only (grownBy_putObj' W' D (.deferred none)) (by
      cases hk : v.ownBlock with
      | none => exact .inl rfl
      | some j => exact .inr (fun e => by obtain ⟨_, cur, h2⟩ := own_cells ho hk; cases e; rw [hK] at h2; cases h2))).more (by omega), hB.trans (belowK_b (w := w) (Nat.le_refl _) W' D _ _ (by omega) hK rfl rfl)⟩
  case stop =>
    rintro D c k W' _ _ _ h _
    exact h.elim
end

section
open Go.RowKit Go.Shelf
attribute [local go_sem] Oper.semAt_some
theorem imageOf_any (ao : Option Addr) (cap : Nat) (xs : List Int) (w : World) (hr : Rd w ao xs.length xs) (hn : xs.length ≤ 1048576) (hcap : xs.length ≤ cap) (hcap2 : cap ≤ 9223372036854775807) :
    Calls Tryz.prog 92 #[.slice ao xs.length cap] w (Makes2 2 w (imageOf xs).1 (imageOf xs).2) := by
  have hcall := fun W h => isBytes_any ao xs.length cap xs W h (by omega)
  rcases hb : isBytes xs with _ | _
  · rw [show imageOf xs = ([], 2) from by unfold imageOf; rw [hb]; rfl]
    rw [hb] at hcall
    have HR := Lib.hid hr; clear hr
    generalize xs.length = n at hcall HR
    go_enter Tryz.func92, Tryz.ntmps92
    go_wp2_with fail
    refine (hcall _ HR.out).mono ?_
    rintro e w1 ⟨rfl, rfl⟩
    go_wp2
    go_ret2
    exact ⟨_, rfl, Own.nil_, Below.refl _ _⟩
  · by_cases hl : 868 < xs.length
    · rw [show imageOf xs = ([], 3) from by unfold imageOf; rw [if_neg (by rw [hb]; simp), if_pos hl]]
      rw [hb] at hcall
      have HR := Lib.hid hr; clear hr
      have hgt : (868 : Int) < (xs.length : Int) := by omega
      clear hcap hcap2 hn hl
      generalize xs.length = n at *
      go_enter Tryz.func92, Tryz.ntmps92
      go_wp2_with fail
      refine (hcall _ HR.out).mono ?_
      rintro e w1 ⟨rfl, rfl⟩
      go_wp2
      go_ret2
      exact ⟨_, rfl, Own.nil_, Below.refl _ _⟩
    · rw [show imageOf xs = (image9 xs, 0) from by unfold imageOf; rw [if_neg (by rw [hb]; simp), if_neg hl]]
      exact image_in ao xs.length cap xs w hr hb (by omega) hcap hcap2
end
end Go.Proofs.YtljdkckoelgkbaaGreat
