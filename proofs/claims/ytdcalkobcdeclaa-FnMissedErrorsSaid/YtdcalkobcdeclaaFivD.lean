/-
  Chapter 5: the draws of vectors, nodes, members and lists.
  Chapter 5: the draws of lists of vectors.
  Chapter 5: DrawAcknowledgeBy.
  A region that draws its order, walked once: an invariant that every operation keeps whenever it is its turn. No program is named here.
  Chapter 5: DrawIsMajority (its table look-ups draw their order).
-/
import Derived.Test.YtdcalkobcdeclaaFiv
import Derived.Test.YtdcalkobcdeclaaDrawA
import Derived.Test.YtdcalkobcdeclaaLawC
import Derived.Deep.Cut
import Derived.Deep.RegionHeld3
import Derived.StillTailTactics
import Derived.Test.YtdcalkobcdeclaaBase
import Derived.Orders
namespace Go.Proofs.Ytdcalkobcdeclaa
section
open Go.RowKit

/-- What a draw of a number leaves: some number; of old memory only the source has been written. -/
def DrawnI (T : Nat) (w : World) (p : Nat) (e : Ending) (w' : World) : Prop :=
  ∃ x : Int, e = .returned (.int .i64 x) ∧ Src T w' p ∧ w.grownBy w' (some p)
theorem alloc_grown {w w' : World} {p : Nat} {o : Obj} (hg : (w.alloc o).grownBy w' (some p)) : w.grownBy w' (some p) := grown_trans (grown_of_below ((Below.refl _ _).alloc (Nat.le_refl _) o)) hg

/-- What a draw of one number leaves. -/
def DrawnInt (w : World) (e : Ending) (w' : World) : Prop := ∃ x : Int, e = .returned (.int .i64 x) ∧ Below w.heap.size w w'
/-- What a draw of two numbers and a bool leaves. -/
def DrawnIIB (w : World) (e : Ending) (w' : World) : Prop := ∃ (x y : Int) (b : Bool), e = .returned (.tuple #[.int .i64 x, .int .i64 y, .bool b]) ∧ Below w.heap.size w w'
end

section
open Go.RowKit

/-- What a draw of a slice and a number leaves. -/
def DrawnSI (E : Nat) (w : World) (e : Ending) (w' : World) : Prop :=
  ∃ v xs k, e = .returned (.tuple #[v, .int .i64 k]) ∧ Own E w' w.heap.size v xs ∧ xs.length ≤ 9000 ∧ Below w.heap.size w w'
end

section
open Go.RowKit

/-- What a draw of four numbers leaves. -/
def DrawnI4 (w : World) (e : Ending) (w' : World) : Prop := ∃ a b c d : Int, e = .returned (.tuple #[.int .i64 a, .int .i64 b, .int .i64 c, .int .i64 d]) ∧ Below w.heap.size w w'
theorem results_tmp4 {fn : Func} {t u v x : Tmp} (h : fn.results = #[.tmp t, .tmp u, .tmp v, .tmp x]) (tmps : Array Value) (P : Program) (w : World) :
    (results fn tmps).run P w = .ok (.tuple #[tmps.getD t undef, tmps.getD u undef, tmps.getD v undef, tmps.getD x undef]) w := by
  simp [results, h]
def vtab3 (a b c : Int) (z : Nat) : Int := if z = 0 then a else if z = 1 then b else c
theorem vtab3_arr (a b c : Int) (z : Nat) (hz : z < 3) : (#[.int .i64 a, .int .i64 b, .int .i64 c] : Array Value)[z]? = some (.int .i64 (vtab3 a b c z)) := by
  match z, hz with
  | 0, _ | 1, _ | 2, _ => rfl
/-- A table of three numbers in block b. -/
def Tab3 (T : Nat) (w : World) (b : Nat) (x y z : Int) : Prop := w.heap[b]? = some (.cells #[.int .i64 x, .int .i64 y, .int .i64 z] T (0, 0))
section
variable {T b : Nat} {w w' : World} {x y z : Int}
theorem Tab3.lt (h : Tab3 T w b x y z) : b < w.heap.size := (Array.getElem?_eq_some_iff.1 h).1
theorem Tab3.cell (h : Tab3 T w b x y z) (i : Nat) (hi : i < 3) : w.cell? ⟨b, i, none⟩ = some (.int .i64 (vtab3 x y z i)) := by
  rw [cell_of_row w b i _ _ (0, 0) h, vtab3_arr x y z i hi]
theorem Tab3.grown {g : Option Nat} (h : Tab3 T w b x y z) (hg : w.grownBy w' g) (hb : g ≠ some b) : Tab3 T w' b x y z := (hg.block b h.lt (fun e => hb e.symm)).trans h
theorem Tab3.new (w : World) : Tab3 T (w.alloc (.cells #[.int .i64 x, .int .i64 y, .int .i64 z] T)) w.heap.size x y z := heap_alloc_new w _
end

end

section
open Go.RowKit

/-- How many of the first n operations are still open. -/
def openN (n : Nat) (listed : Array Bool) : Nat := ((List.range n).filter fun i => !listed.getD i true).length
/-- Operation j has been done. -/
def fl (listed : Array Bool) (j : Nat) : Bool := listed.getD j false
theorem filter_less {p q : Nat → Bool} {i : Nat} (hpq : ∀ j, q j = true → p j = true) (hp : p i = true) (hq : q i = false) : ∀ l : List Nat, i ∈ l → (l.filter q).length < (l.filter p).length := by
  have hle : ∀ l : List Nat, (l.filter q).length ≤ (l.filter p).length := fun l => by
    rw [← List.countP_eq_length_filter, ← List.countP_eq_length_filter]
    exact List.countP_mono_left (fun j _ h => hpq j h)
  intro l
  induction l with
  | nil => intro h; cases h
  | cons j l ih =>
    intro h
    by_cases e : i = j
    · subst e
      rw [List.filter_cons_of_neg (by simp [hq]), List.filter_cons_of_pos hp, List.length_cons]
      exact Nat.lt_succ_of_le (hle l)
    · have h' : i ∈ l := by
        rcases List.mem_cons.1 h with h | h
        · exact absurd h e
        · exact h
      have := ih h'
      by_cases hj : q j = true
      · rw [List.filter_cons_of_pos hj, List.filter_cons_of_pos (hpq j hj), List.length_cons, List.length_cons]; omega
      · rw [List.filter_cons_of_neg hj]
        by_cases hj' : p j = true
        · rw [List.filter_cons_of_pos hj', List.length_cons]; omega
        · rw [List.filter_cons_of_neg hj']; exact this
theorem getD_set (listed : Array Bool) (i j : Nat) (d : Bool) (hi : i < listed.size) : (listed.setIfInBounds i true).getD j d = if i = j then true else listed.getD j d := by
  rw [Array.getD_eq_getD_getElem?, Array.getD_eq_getD_getElem?, Array.getElem?_setIfInBounds]
  by_cases e : i = j
  · subst e; simp [hi]
  · simp [e]
theorem size_of_open {listed : Array Bool} {i : Nat} (h : listed.getD i true = false) : i < listed.size := by
  rw [Array.getD_eq_getD_getElem?] at h
  by_cases hi : i < listed.size
  · exact hi
  · rw [Array.getElem?_eq_none (by omega)] at h; cases h
theorem openN_set {n i : Nat} {listed : Array Bool} (hi : i < n) (h : listed.getD i true = false) : openN n (listed.setIfInBounds i true) < openN n listed := by
  have hs := size_of_open h
  refine filter_less (i := i) (fun j hj => ?_) (by simp [h]) ?_ _ (List.mem_range.2 hi)
  · rw [getD_set _ _ _ _ hs] at hj
    by_cases e : i = j
    · simp [e] at hj
    · simpa [e] using hj
  · rw [getD_set _ _ _ _ hs]; simp
theorem fl_set {listed : Array Bool} {i : Nat} (h : listed.getD i true = false) (j : Nat) : fl (listed.setIfInBounds i true) j = if i = j then true else fl listed j := getD_set _ _ _ _ (size_of_open h)
theorem ready_mem {ops : Array Oper} {listed : Array Bool} {i : Nat} (h : i ∈ Region.ready .any ops listed) :
    i < ops.size ∧ listed.getD i true = false ∧ ((ops[i]?).map (·.after.all fun e => !Region.binds .any e || fl listed e.on)).getD false = true := by
  unfold Region.ready at h
  rw [List.mem_filter, List.mem_range] at h
  simp only [Bool.and_eq_true, Bool.not_eq_true'] at h
  exact ⟨h.1, h.2.1, h.2.2⟩
/-- Where no operation is ready, all are done, if each one's edges lead to earlier ones. -/
theorem ready_nil {ops : Array Oper} {listed : Array Bool} (hed : ((List.range ops.size).all fun i => ((ops[i]?).map (·.after.all fun e => !Region.binds .any e || decide (e.on < i))).getD true) = true) (hsz : listed.size = ops.size)
    (h : Region.ready .any ops listed = []) : ∀ i, i < ops.size → fl listed i = true := by
  intro i
  induction i using Nat.strongRecOn with
  | ind i ih =>
    intro hi
    have hn : i ∉ Region.ready .any ops listed := by rw [h]; simp
    have he := (List.all_eq_true.1 hed) i (List.mem_range.2 hi)
    rw [Array.getElem?_eq_getElem hi] at he
    simp only [Option.map_some, Option.getD_some, Array.all_eq_true_iff_forall_mem, Bool.or_eq_true, decide_eq_true_eq] at he
    unfold Region.ready at hn
    rw [List.mem_filter, List.mem_range, Array.getElem?_eq_getElem hi] at hn
    have ha : (ops[i].after.all fun e => !Region.binds .any e || listed.getD e.on false) = true := by
      rw [Array.all_eq_true_iff_forall_mem]
      intro e hm
      rcases he e hm with h1 | h1
      · rw [h1]; rfl
      · have h2 := ih e.on h1 (by omega)
        unfold fl at h2
        rw [h2]; simp
    simp only [Option.map_some, Option.getD_some, ha, Bool.and_true] at hn
    have h3 : listed.getD i true = true := by
      cases hl : listed.getD i true
      · exact absurd ⟨hi, by rw [hl]; rfl⟩ hn
      · rfl
    unfold fl
    rw [Array.getD_eq_getD_getElem?, Array.getElem?_eq_getElem (by omega)] at h3 ⊢
    exact h3
theorem wpAny_inv {P : Program} {ops : Array Oper} {Q : Exit → Act → World → Prop} (I : Array Bool → Act → World → Prop)
    (hstep : ∀ listed a w, I listed a w → ∀ i ∈ Region.ready .any ops listed, ∀ K : Act → World → Prop, (∀ a' w', I (listed.setIfInBounds i true) a' w' → K a' w') → wpOp P ops Q i K a w)
    (hend : ∀ listed a w, I listed a w → Region.ready .any ops listed = [] → Q .normal a w) :
    ∀ fuel listed a w, openN ops.size listed ≤ fuel → I listed a w → wpAny P .any ops Q fuel listed a w := by
  intro fuel
  induction fuel with
  | zero =>
    intro listed a w hf hI
    have hr : Region.ready .any ops listed = [] := by
      cases hr : Region.ready .any ops listed with
      | nil => rfl
      | cons i l =>
        have hi : i ∈ Region.ready .any ops listed := by rw [hr]; simp
        obtain ⟨h1, h2, _⟩ := ready_mem hi
        have := openN_set h1 h2
        omega
    exact ⟨hr, hend _ _ _ hI hr⟩
  | succ fuel ih =>
    intro listed a w hf hI
    refine ⟨fun hr => hend _ _ _ hI hr, fun i hi => ?_⟩
    obtain ⟨h1, h2, _⟩ := ready_mem hi
    have := openN_set h1 h2
    exact hstep listed a w hI i hi _ (fun a' w' hI' => ih _ a' w' (by omega) hI')
theorem wpOp_of {P : Program} {ops : Array Oper} {Q : Exit → Act → World → Prop} {i : Nat} {o : Oper} {K : Act → World → Prop} {a : Act} {w : World} (ho : ops[i]? = some o) (hg : o.guard = none) (h : o.wp P a w K Q) : wpOp P ops Q i K a w := by
  unfold wpOp
  simp [ho, Region.wanted, hg, h]
end

section
open Go.RowKit

/-- What a draw of two numbers leaves. -/
def DrawnII (w : World) (e : Ending) (w' : World) : Prop := ∃ a b : Int, e = .returned (.tuple #[.int .i64 a, .int .i64 b]) ∧ Below w.heap.size w w'

/-- Block b, laid since w0, holds the table cs. -/
def TabW (E : Nat) (w0 w : World) (cs : Array Value) (b : Nat) : Prop := w0.heap.size ≤ b ∧ w.heap[b]? = some (.cells cs E (0, 0))
def c4 : Array Value := #[.int .i64 (-1), .int .i64 0, .int .i64 256, .int .i64 257]
def c3 : Array Value := #[.int .i64 (-1), .int .i64 0, .int .i64 256]
theorem c4_at (z : Nat) (h : z < 4) : ∃ x : Int, c4[z]? = some (.int .i64 x) := by
  match z, h with
  | 0, _ | 1, _ | 2, _ | 3, _ => exact ⟨_, rfl⟩
theorem c3_at (z : Nat) (h : z < 3) : ∃ x : Int, c3[z]? = some (.int .i64 x) := by
  match z, h with
  | 0, _ | 1, _ | 2, _ => exact ⟨_, rfl⟩
theorem TabW.alloc {E b : Nat} {w0 w : World} {cs : Array Value} (h : TabW E w0 w cs b) (o : Obj) : TabW E w0 (w.alloc o) cs b :=
  ⟨h.1, (((Below.refl w.heap.size w).alloc (Nat.le_refl _) o).block b (Array.getElem?_eq_some_iff.1 h.2).1).trans h.2⟩
theorem TabW.grown {E b p : Nat} {w0 w w' : World} {cs : Array Value} (h : TabW E w0 w cs b) (g : w.grownBy w' (some p)) (hp : p < w0.heap.size) : TabW E w0 w' cs b :=
  ⟨h.1, (g.block b (Array.getElem?_eq_some_iff.1 h.2).1 (by simp; have := h.1; omega)).trans h.2⟩
theorem TabW.cell {E b : Nat} {w0 w : World} {cs : Array Value} (h : TabW E w0 w cs b) (z : Nat) : w.cell? ⟨b, z, none⟩ = cs[z]? := cell_of_row w b z _ _ (0, 0) h.2
/-- What stands in the slots, as far as the operations have been done. -/
structure MajI (E T p : Nat) (w0 : World) (l : Array Bool) (w : World) (v2 v3 v10 v11 v12 v13 v14 v15 v16 v17 v18 v19 : Value) : Prop where
  size : l.size = 12
  src : Src T w p
  grown : w0.grownBy w (some p)
  f0 : fl l 0 = true → ∃ b : Nat, v10 = .slice (some ⟨b, 0, none⟩) 4 4 ∧ TabW E w0 w c4 b
  f1 : fl l 1 = true → v11 = .pointer (some ⟨p, 0, none⟩)
  f2 : fl l 2 = true → ∃ z : Nat, v12 = .int .i64 z ∧ z < 4
  f3 : fl l 3 = true → ∃ b z : Nat, v13 = .pointer (some ⟨b, z, none⟩) ∧ TabW E w0 w c4 b ∧ z < 4
  f4 : fl l 4 = true → ∃ x : Int, v14 = .int .i64 x
  f5 : fl l 5 = true → ∃ b : Nat, v15 = .slice (some ⟨b, 0, none⟩) 3 3 ∧ TabW E w0 w c3 b
  f6 : fl l 6 = true → v16 = .pointer (some ⟨p, 0, none⟩)
  f7 : fl l 7 = true → ∃ z : Nat, v17 = .int .i64 z ∧ z < 3
  f8 : fl l 8 = true → ∃ b z : Nat, v18 = .pointer (some ⟨b, z, none⟩) ∧ TabW E w0 w c3 b ∧ z < 3
  f9 : fl l 9 = true → ∃ x : Int, v19 = .int .i64 x
  f10 : fl l 10 = true → ∃ x : Int, v2 = .int .i64 x
  f11 : fl l 11 = true → ∃ x : Int, v3 = .int .i64 x
theorem MajI.move {E T p : Nat} {w0 w w' : World} {l : Array Bool} {v2 v3 v10 v11 v12 v13 v14 v15 v16 v17 v18 v19 : Value} (h : MajI E T p w0 l w v2 v3 v10 v11 v12 v13 v14 v15 v16 v17 v18 v19) (hs : Src T w' p) (hg : w0.grownBy w' (some p)) (ht : ∀ cs b, TabW E w0 w cs b → TabW E w0 w' cs b) : MajI E T p w0 l w' v2 v3 v10 v11 v12 v13 v14 v15 v16 v17 v18 v19 where
  size := h.size
  src := hs
  grown := hg
  f0 := fun hf => by obtain ⟨b, e, t⟩ := h.f0 hf; exact ⟨b, e, ht _ _ t⟩
  f1 := h.f1
  f2 := h.f2
  f3 := fun hf => by obtain ⟨b, z, e, t, hz⟩ := h.f3 hf; exact ⟨b, z, e, ht _ _ t, hz⟩
  f4 := h.f4
  f5 := fun hf => by obtain ⟨b, e, t⟩ := h.f5 hf; exact ⟨b, e, ht _ _ t⟩
  f6 := h.f6
  f7 := h.f7
  f8 := fun hf => by obtain ⟨b, z, e, t, hz⟩ := h.f8 hf; exact ⟨b, z, e, ht _ _ t, hz⟩
  f9 := h.f9
  f10 := h.f10
  f11 := h.f11
theorem MajI.s0 {E T p : Nat} {w0 w : World} {l : Array Bool} {v2 v3 v10 v11 v12 v13 v14 v15 v16 v17 v18 v19 x : Value} (h : MajI E T p w0 l w v2 v3 v10 v11 v12 v13 v14 v15 v16 v17 v18 v19) (ho : l.getD 0 true = false) (hx : ∃ b : Nat, x = .slice (some ⟨b, 0, none⟩) 4 4 ∧ TabW E w0 w c4 b) : MajI E T p w0 (l.setIfInBounds 0 true) w v2 v3 x v11 v12 v13 v14 v15 v16 v17 v18 v19 where
  size := by rw [Array.size_setIfInBounds]; exact h.size
  src := h.src
  grown := h.grown
  f0 := fun _ => hx
  f1 := fun hf => h.f1 (by rwa [fl_set ho, if_neg (by decide)] at hf)
  f2 := fun hf => h.f2 (by rwa [fl_set ho, if_neg (by decide)] at hf)
  f3 := fun hf => h.f3 (by rwa [fl_set ho, if_neg (by decide)] at hf)
  f4 := fun hf => h.f4 (by rwa [fl_set ho, if_neg (by decide)] at hf)
  f5 := fun hf => h.f5 (by rwa [fl_set ho, if_neg (by decide)] at hf)
  f6 := fun hf => h.f6 (by rwa [fl_set ho, if_neg (by decide)] at hf)
  f7 := fun hf => h.f7 (by rwa [fl_set ho, if_neg (by decide)] at hf)
  f8 := fun hf => h.f8 (by rwa [fl_set ho, if_neg (by decide)] at hf)
  f9 := fun hf => h.f9 (by rwa [fl_set ho, if_neg (by decide)] at hf)
  f10 := fun hf => h.f10 (by rwa [fl_set ho, if_neg (by decide)] at hf)
  f11 := fun hf => h.f11 (by rwa [fl_set ho, if_neg (by decide)] at hf)
theorem MajI.s1 {E T p : Nat} {w0 w : World} {l : Array Bool} {v2 v3 v10 v11 v12 v13 v14 v15 v16 v17 v18 v19 x : Value} (h : MajI E T p w0 l w v2 v3 v10 v11 v12 v13 v14 v15 v16 v17 v18 v19) (ho : l.getD 1 true = false) (hx : x = .pointer (some ⟨p, 0, none⟩)) : MajI E T p w0 (l.setIfInBounds 1 true) w v2 v3 v10 x v12 v13 v14 v15 v16 v17 v18 v19 where
  size := by rw [Array.size_setIfInBounds]; exact h.size
  src := h.src
  grown := h.grown
  f0 := fun hf => h.f0 (by rwa [fl_set ho, if_neg (by decide)] at hf)
  f1 := fun _ => hx
  f2 := fun hf => h.f2 (by rwa [fl_set ho, if_neg (by decide)] at hf)
  f3 := fun hf => h.f3 (by rwa [fl_set ho, if_neg (by decide)] at hf)
  f4 := fun hf => h.f4 (by rwa [fl_set ho, if_neg (by decide)] at hf)
  f5 := fun hf => h.f5 (by rwa [fl_set ho, if_neg (by decide)] at hf)
  f6 := fun hf => h.f6 (by rwa [fl_set ho, if_neg (by decide)] at hf)
  f7 := fun hf => h.f7 (by rwa [fl_set ho, if_neg (by decide)] at hf)
  f8 := fun hf => h.f8 (by rwa [fl_set ho, if_neg (by decide)] at hf)
  f9 := fun hf => h.f9 (by rwa [fl_set ho, if_neg (by decide)] at hf)
  f10 := fun hf => h.f10 (by rwa [fl_set ho, if_neg (by decide)] at hf)
  f11 := fun hf => h.f11 (by rwa [fl_set ho, if_neg (by decide)] at hf)
theorem MajI.s2 {E T p : Nat} {w0 w : World} {l : Array Bool} {v2 v3 v10 v11 v12 v13 v14 v15 v16 v17 v18 v19 x : Value} (h : MajI E T p w0 l w v2 v3 v10 v11 v12 v13 v14 v15 v16 v17 v18 v19) (ho : l.getD 2 true = false) (hx : ∃ z : Nat, x = .int .i64 z ∧ z < 4) : MajI E T p w0 (l.setIfInBounds 2 true) w v2 v3 v10 v11 x v13 v14 v15 v16 v17 v18 v19 where
  size := by rw [Array.size_setIfInBounds]; exact h.size
  src := h.src
  grown := h.grown
  f0 := fun hf => h.f0 (by rwa [fl_set ho, if_neg (by decide)] at hf)
  f1 := fun hf => h.f1 (by rwa [fl_set ho, if_neg (by decide)] at hf)
  f2 := fun _ => hx
  f3 := fun hf => h.f3 (by rwa [fl_set ho, if_neg (by decide)] at hf)
  f4 := fun hf => h.f4 (by rwa [fl_set ho, if_neg (by decide)] at hf)
  f5 := fun hf => h.f5 (by rwa [fl_set ho, if_neg (by decide)] at hf)
  f6 := fun hf => h.f6 (by rwa [fl_set ho, if_neg (by decide)] at hf)
  f7 := fun hf => h.f7 (by rwa [fl_set ho, if_neg (by decide)] at hf)
  f8 := fun hf => h.f8 (by rwa [fl_set ho, if_neg (by decide)] at hf)
  f9 := fun hf => h.f9 (by rwa [fl_set ho, if_neg (by decide)] at hf)
  f10 := fun hf => h.f10 (by rwa [fl_set ho, if_neg (by decide)] at hf)
  f11 := fun hf => h.f11 (by rwa [fl_set ho, if_neg (by decide)] at hf)
theorem MajI.s3 {E T p : Nat} {w0 w : World} {l : Array Bool} {v2 v3 v10 v11 v12 v13 v14 v15 v16 v17 v18 v19 x : Value} (h : MajI E T p w0 l w v2 v3 v10 v11 v12 v13 v14 v15 v16 v17 v18 v19) (ho : l.getD 3 true = false) (hx : ∃ b z : Nat, x = .pointer (some ⟨b, z, none⟩) ∧ TabW E w0 w c4 b ∧ z < 4) : MajI E T p w0 (l.setIfInBounds 3 true) w v2 v3 v10 v11 v12 x v14 v15 v16 v17 v18 v19 where
  size := by rw [Array.size_setIfInBounds]; exact h.size
  src := h.src
  grown := h.grown
  f0 := fun hf => h.f0 (by rwa [fl_set ho, if_neg (by decide)] at hf)
  f1 := fun hf => h.f1 (by rwa [fl_set ho, if_neg (by decide)] at hf)
  f2 := fun hf => h.f2 (by rwa [fl_set ho, if_neg (by decide)] at hf)
  f3 := fun _ => hx
  f4 := fun hf => h.f4 (by rwa [fl_set ho, if_neg (by decide)] at hf)
  f5 := fun hf => h.f5 (by rwa [fl_set ho, if_neg (by decide)] at hf)
  f6 := fun hf => h.f6 (by rwa [fl_set ho, if_neg (by decide)] at hf)
  f7 := fun hf => h.f7 (by rwa [fl_set ho, if_neg (by decide)] at hf)
  f8 := fun hf => h.f8 (by rwa [fl_set ho, if_neg (by decide)] at hf)
  f9 := fun hf => h.f9 (by rwa [fl_set ho, if_neg (by decide)] at hf)
  f10 := fun hf => h.f10 (by rwa [fl_set ho, if_neg (by decide)] at hf)
  f11 := fun hf => h.f11 (by rwa [fl_set ho, if_neg (by decide)] at hf)
theorem MajI.s4 {E T p : Nat} {w0 w : World} {l : Array Bool} {v2 v3 v10 v11 v12 v13 v14 v15 v16 v17 v18 v19 x : Value} (h : MajI E T p w0 l w v2 v3 v10 v11 v12 v13 v14 v15 v16 v17 v18 v19) (ho : l.getD 4 true = false) (hx : ∃ y : Int, x = .int .i64 y) : MajI E T p w0 (l.setIfInBounds 4 true) w v2 v3 v10 v11 v12 v13 x v15 v16 v17 v18 v19 where
  size := by rw [Array.size_setIfInBounds]; exact h.size
  src := h.src
  grown := h.grown
  f0 := fun hf => h.f0 (by rwa [fl_set ho, if_neg (by decide)] at hf)
  f1 := fun hf => h.f1 (by rwa [fl_set ho, if_neg (by decide)] at hf)
  f2 := fun hf => h.f2 (by rwa [fl_set ho, if_neg (by decide)] at hf)
  f3 := fun hf => h.f3 (by rwa [fl_set ho, if_neg (by decide)] at hf)
  f4 := fun _ => hx
  f5 := fun hf => h.f5 (by rwa [fl_set ho, if_neg (by decide)] at hf)
  f6 := fun hf => h.f6 (by rwa [fl_set ho, if_neg (by decide)] at hf)
  f7 := fun hf => h.f7 (by rwa [fl_set ho, if_neg (by decide)] at hf)
  f8 := fun hf => h.f8 (by rwa [fl_set ho, if_neg (by decide)] at hf)
  f9 := fun hf => h.f9 (by rwa [fl_set ho, if_neg (by decide)] at hf)
  f10 := fun hf => h.f10 (by rwa [fl_set ho, if_neg (by decide)] at hf)
  f11 := fun hf => h.f11 (by rwa [fl_set ho, if_neg (by decide)] at hf)
theorem MajI.s5 {E T p : Nat} {w0 w : World} {l : Array Bool} {v2 v3 v10 v11 v12 v13 v14 v15 v16 v17 v18 v19 x : Value} (h : MajI E T p w0 l w v2 v3 v10 v11 v12 v13 v14 v15 v16 v17 v18 v19) (ho : l.getD 5 true = false) (hx : ∃ b : Nat, x = .slice (some ⟨b, 0, none⟩) 3 3 ∧ TabW E w0 w c3 b) : MajI E T p w0 (l.setIfInBounds 5 true) w v2 v3 v10 v11 v12 v13 v14 x v16 v17 v18 v19 where
  size := by rw [Array.size_setIfInBounds]; exact h.size
  src := h.src
  grown := h.grown
  f0 := fun hf => h.f0 (by rwa [fl_set ho, if_neg (by decide)] at hf)
  f1 := fun hf => h.f1 (by rwa [fl_set ho, if_neg (by decide)] at hf)
  f2 := fun hf => h.f2 (by rwa [fl_set ho, if_neg (by decide)] at hf)
  f3 := fun hf => h.f3 (by rwa [fl_set ho, if_neg (by decide)] at hf)
  f4 := fun hf => h.f4 (by rwa [fl_set ho, if_neg (by decide)] at hf)
  f5 := fun _ => hx
  f6 := fun hf => h.f6 (by rwa [fl_set ho, if_neg (by decide)] at hf)
  f7 := fun hf => h.f7 (by rwa [fl_set ho, if_neg (by decide)] at hf)
  f8 := fun hf => h.f8 (by rwa [fl_set ho, if_neg (by decide)] at hf)
  f9 := fun hf => h.f9 (by rwa [fl_set ho, if_neg (by decide)] at hf)
  f10 := fun hf => h.f10 (by rwa [fl_set ho, if_neg (by decide)] at hf)
  f11 := fun hf => h.f11 (by rwa [fl_set ho, if_neg (by decide)] at hf)
theorem MajI.s6 {E T p : Nat} {w0 w : World} {l : Array Bool} {v2 v3 v10 v11 v12 v13 v14 v15 v16 v17 v18 v19 x : Value} (h : MajI E T p w0 l w v2 v3 v10 v11 v12 v13 v14 v15 v16 v17 v18 v19) (ho : l.getD 6 true = false) (hx : x = .pointer (some ⟨p, 0, none⟩)) : MajI E T p w0 (l.setIfInBounds 6 true) w v2 v3 v10 v11 v12 v13 v14 v15 x v17 v18 v19 where
  size := by rw [Array.size_setIfInBounds]; exact h.size
  src := h.src
  grown := h.grown
  f0 := fun hf => h.f0 (by rwa [fl_set ho, if_neg (by decide)] at hf)
  f1 := fun hf => h.f1 (by rwa [fl_set ho, if_neg (by decide)] at hf)
  f2 := fun hf => h.f2 (by rwa [fl_set ho, if_neg (by decide)] at hf)
  f3 := fun hf => h.f3 (by rwa [fl_set ho, if_neg (by decide)] at hf)
  f4 := fun hf => h.f4 (by rwa [fl_set ho, if_neg (by decide)] at hf)
  f5 := fun hf => h.f5 (by rwa [fl_set ho, if_neg (by decide)] at hf)
  f6 := fun _ => hx
  f7 := fun hf => h.f7 (by rwa [fl_set ho, if_neg (by decide)] at hf)
  f8 := fun hf => h.f8 (by rwa [fl_set ho, if_neg (by decide)] at hf)
  f9 := fun hf => h.f9 (by rwa [fl_set ho, if_neg (by decide)] at hf)
  f10 := fun hf => h.f10 (by rwa [fl_set ho, if_neg (by decide)] at hf)
  f11 := fun hf => h.f11 (by rwa [fl_set ho, if_neg (by decide)] at hf)
theorem MajI.s7 {E T p : Nat} {w0 w : World} {l : Array Bool} {v2 v3 v10 v11 v12 v13 v14 v15 v16 v17 v18 v19 x : Value} (h : MajI E T p w0 l w v2 v3 v10 v11 v12 v13 v14 v15 v16 v17 v18 v19) (ho : l.getD 7 true = false) (hx : ∃ z : Nat, x = .int .i64 z ∧ z < 3) : MajI E T p w0 (l.setIfInBounds 7 true) w v2 v3 v10 v11 v12 v13 v14 v15 v16 x v18 v19 where
  size := by rw [Array.size_setIfInBounds]; exact h.size
  src := h.src
  grown := h.grown
  f0 := fun hf => h.f0 (by rwa [fl_set ho, if_neg (by decide)] at hf)
  f1 := fun hf => h.f1 (by rwa [fl_set ho, if_neg (by decide)] at hf)
  f2 := fun hf => h.f2 (by rwa [fl_set ho, if_neg (by decide)] at hf)
  f3 := fun hf => h.f3 (by rwa [fl_set ho, if_neg (by decide)] at hf)
  f4 := fun hf => h.f4 (by rwa [fl_set ho, if_neg (by decide)] at hf)
  f5 := fun hf => h.f5 (by rwa [fl_set ho, if_neg (by decide)] at hf)
  f6 := fun hf => h.f6 (by rwa [fl_set ho, if_neg (by decide)] at hf)
  f7 := fun _ => hx
  f8 := fun hf => h.f8 (by rwa [fl_set ho, if_neg (by decide)] at hf)
  f9 := fun hf => h.f9 (by rwa [fl_set ho, if_neg (by decide)] at hf)
  f10 := fun hf => h.f10 (by rwa [fl_set ho, if_neg (by decide)] at hf)
  f11 := fun hf => h.f11 (by rwa [fl_set ho, if_neg (by decide)] at hf)
theorem MajI.s8 {E T p : Nat} {w0 w : World} {l : Array Bool} {v2 v3 v10 v11 v12 v13 v14 v15 v16 v17 v18 v19 x : Value} (h : MajI E T p w0 l w v2 v3 v10 v11 v12 v13 v14 v15 v16 v17 v18 v19) (ho : l.getD 8 true = false) (hx : ∃ b z : Nat, x = .pointer (some ⟨b, z, none⟩) ∧ TabW E w0 w c3 b ∧ z < 3) : MajI E T p w0 (l.setIfInBounds 8 true) w v2 v3 v10 v11 v12 v13 v14 v15 v16 v17 x v19 where
  size := by rw [Array.size_setIfInBounds]; exact h.size
  src := h.src
  grown := h.grown
  f0 := fun hf => h.f0 (by rwa [fl_set ho, if_neg (by decide)] at hf)
  f1 := fun hf => h.f1 (by rwa [fl_set ho, if_neg (by decide)] at hf)
  f2 := fun hf => h.f2 (by rwa [fl_set ho, if_neg (by decide)] at hf)
  f3 := fun hf => h.f3 (by rwa [fl_set ho, if_neg (by decide)] at hf)
  f4 := fun hf => h.f4 (by rwa [fl_set ho, if_neg (by decide)] at hf)
  f5 := fun hf => h.f5 (by rwa [fl_set ho, if_neg (by decide)] at hf)
  f6 := fun hf => h.f6 (by rwa [fl_set ho, if_neg (by decide)] at hf)
  f7 := fun hf => h.f7 (by rwa [fl_set ho, if_neg (by decide)] at hf)
  f8 := fun _ => hx
  f9 := fun hf => h.f9 (by rwa [fl_set ho, if_neg (by decide)] at hf)
  f10 := fun hf => h.f10 (by rwa [fl_set ho, if_neg (by decide)] at hf)
  f11 := fun hf => h.f11 (by rwa [fl_set ho, if_neg (by decide)] at hf)
theorem MajI.s9 {E T p : Nat} {w0 w : World} {l : Array Bool} {v2 v3 v10 v11 v12 v13 v14 v15 v16 v17 v18 v19 x : Value} (h : MajI E T p w0 l w v2 v3 v10 v11 v12 v13 v14 v15 v16 v17 v18 v19) (ho : l.getD 9 true = false) (hx : ∃ y : Int, x = .int .i64 y) : MajI E T p w0 (l.setIfInBounds 9 true) w v2 v3 v10 v11 v12 v13 v14 v15 v16 v17 v18 x where
  size := by rw [Array.size_setIfInBounds]; exact h.size
  src := h.src
  grown := h.grown
  f0 := fun hf => h.f0 (by rwa [fl_set ho, if_neg (by decide)] at hf)
  f1 := fun hf => h.f1 (by rwa [fl_set ho, if_neg (by decide)] at hf)
  f2 := fun hf => h.f2 (by rwa [fl_set ho, if_neg (by decide)] at hf)
  f3 := fun hf => h.f3 (by rwa [fl_set ho, if_neg (by decide)] at hf)
  f4 := fun hf => h.f4 (by rwa [fl_set ho, if_neg (by decide)] at hf)
  f5 := fun hf => h.f5 (by rwa [fl_set ho, if_neg (by decide)] at hf)
  f6 := fun hf => h.f6 (by rwa [fl_set ho, if_neg (by decide)] at hf)
  f7 := fun hf => h.f7 (by rwa [fl_set ho, if_neg (by decide)] at hf)
  f8 := fun hf => h.f8 (by rwa [fl_set ho, if_neg (by decide)] at hf)
  f9 := fun _ => hx
  f10 := fun hf => h.f10 (by rwa [fl_set ho, if_neg (by decide)] at hf)
  f11 := fun hf => h.f11 (by rwa [fl_set ho, if_neg (by decide)] at hf)
theorem MajI.s10 {E T p : Nat} {w0 w : World} {l : Array Bool} {v2 v3 v10 v11 v12 v13 v14 v15 v16 v17 v18 v19 x : Value} (h : MajI E T p w0 l w v2 v3 v10 v11 v12 v13 v14 v15 v16 v17 v18 v19) (ho : l.getD 10 true = false) (hx : ∃ y : Int, x = .int .i64 y) : MajI E T p w0 (l.setIfInBounds 10 true) w x v3 v10 v11 v12 v13 v14 v15 v16 v17 v18 v19 where
  size := by rw [Array.size_setIfInBounds]; exact h.size
  src := h.src
  grown := h.grown
  f0 := fun hf => h.f0 (by rwa [fl_set ho, if_neg (by decide)] at hf)
  f1 := fun hf => h.f1 (by rwa [fl_set ho, if_neg (by decide)] at hf)
  f2 := fun hf => h.f2 (by rwa [fl_set ho, if_neg (by decide)] at hf)
  f3 := fun hf => h.f3 (by rwa [fl_set ho, if_neg (by decide)] at hf)
  f4 := fun hf => h.f4 (by rwa [fl_set ho, if_neg (by decide)] at hf)
  f5 := fun hf => h.f5 (by rwa [fl_set ho, if_neg (by decide)] at hf)
  f6 := fun hf => h.f6 (by rwa [fl_set ho, if_neg (by decide)] at hf)
  f7 := fun hf => h.f7 (by rwa [fl_set ho, if_neg (by decide)] at hf)
  f8 := fun hf => h.f8 (by rwa [fl_set ho, if_neg (by decide)] at hf)
  f9 := fun hf => h.f9 (by rwa [fl_set ho, if_neg (by decide)] at hf)
  f10 := fun _ => hx
  f11 := fun hf => h.f11 (by rwa [fl_set ho, if_neg (by decide)] at hf)
theorem MajI.s11 {E T p : Nat} {w0 w : World} {l : Array Bool} {v2 v3 v10 v11 v12 v13 v14 v15 v16 v17 v18 v19 x : Value} (h : MajI E T p w0 l w v2 v3 v10 v11 v12 v13 v14 v15 v16 v17 v18 v19) (ho : l.getD 11 true = false) (hx : ∃ y : Int, x = .int .i64 y) : MajI E T p w0 (l.setIfInBounds 11 true) w v2 x v10 v11 v12 v13 v14 v15 v16 v17 v18 v19 where
  size := by rw [Array.size_setIfInBounds]; exact h.size
  src := h.src
  grown := h.grown
  f0 := fun hf => h.f0 (by rwa [fl_set ho, if_neg (by decide)] at hf)
  f1 := fun hf => h.f1 (by rwa [fl_set ho, if_neg (by decide)] at hf)
  f2 := fun hf => h.f2 (by rwa [fl_set ho, if_neg (by decide)] at hf)
  f3 := fun hf => h.f3 (by rwa [fl_set ho, if_neg (by decide)] at hf)
  f4 := fun hf => h.f4 (by rwa [fl_set ho, if_neg (by decide)] at hf)
  f5 := fun hf => h.f5 (by rwa [fl_set ho, if_neg (by decide)] at hf)
  f6 := fun hf => h.f6 (by rwa [fl_set ho, if_neg (by decide)] at hf)
  f7 := fun hf => h.f7 (by rwa [fl_set ho, if_neg (by decide)] at hf)
  f8 := fun hf => h.f8 (by rwa [fl_set ho, if_neg (by decide)] at hf)
  f9 := fun hf => h.f9 (by rwa [fl_set ho, if_neg (by decide)] at hf)
  f10 := fun hf => h.f10 (by rwa [fl_set ho, if_neg (by decide)] at hf)
  f11 := fun _ => hx
end
end Go.Proofs.Ytdcalkobcdeclaa
