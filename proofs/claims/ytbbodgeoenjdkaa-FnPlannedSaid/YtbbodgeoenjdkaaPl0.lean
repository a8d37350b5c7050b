/-
  The plain functions of chapter 16 (demands, bookings, planning). No program is named here.
-/
import Derived.Test.YtbbodgeoenjdkaaSt
import Derived.Test.YtbbodgeoenjdkaaVecs
namespace Go.Proofs.Ytbbodgeoenjdkaa

structure Dm where
  node : Int
  every : Int
  size : Int
def Dm.zero : Dm := ⟨0, 0, 0⟩
structure Bk where
  slot : Int
  phase : Int
def Bk.zero : Bk := ⟨0, 0⟩
def isPow (n : Int) : Bool := decide (n = 1) || (decide (n = 2) || (decide (n = 4) || decide (n = 8)))
def isDm (x : Dm) : Bool := isNode x.node && (isPow x.every && inRange 1 32 x.size)
def areDms (t : List Dm) : Bool := decide (t.length ≤ 40) && t.all isDm
theorem isPow_iff {n : Int} : isPow n = true ↔ n = 1 ∨ n = 2 ∨ n = 4 ∨ n = 8 := by simp [isPow]
theorem isPow_nat {n : Int} (h : isPow n = true) : ∃ e : Nat, n = (e : Int) ∧ (e = 1 ∨ e = 2 ∨ e = 4 ∨ e = 8) := by
  rw [isPow_iff] at h
  refine ⟨n.toNat, ?_, ?_⟩ <;> omega
theorem isDm_iff {x : Dm} : isDm x = true ↔ isNode x.node = true ∧ isPow x.every = true ∧ (1 ≤ x.size ∧ x.size ≤ 32) := by
  simp [isDm, inRange]
theorem areDms_iff {t : List Dm} : areDms t = true ↔ t.length ≤ 40 ∧ ∀ x ∈ t, isDm x = true := by
  simp [areDms, List.all_eq_true]

/-! ### a table: the index of the demand for each slot of each round, -1 for none -/
abbrev Tab := Nat → Nat → Int
def tab0 : Tab := fun _ _ => -1
/-- Round r is among those of a phase. -/
def plHits (e p r : Nat) : Bool := decide (p ≤ r) && decide ((r - p) % e = 0)
/-- The index i is written at the rounds of the phase below n. -/
def plPutTo (T : Tab) (e p s : Nat) (i : Int) (n : Nat) : Tab := fun r k => if k = s ∧ plHits e p r = true ∧ r < n then i else T r k
def plPut (T : Tab) (R : Nat) (x : Dm) (b : Bk) (i : Int) : Tab := plPutTo T x.every.toNat b.phase.toNat b.slot.toNat i R
/-- All rounds of the phase below n are free. -/
def plFree (T : Tab) (e p s n : Nat) : Bool := (List.range n).all fun r => !plHits e p r || decide (T r s = -1)
def plFits (T : Tab) (R S : Nat) (x : Dm) (b : Bk) : Bool :=
  decide (x.every ≤ R) && (inRange 0 ((S : Int) - 1) b.slot && (inRange 0 (x.every - 1) b.phase && plFree T x.every.toNat b.phase.toNat b.slot.toNat R))
/-- The first booking that fits. -/
def plIn (T : Tab) (R S : Nat) (x : Dm) (s : Nat) : Option Nat := (List.range x.every.toNat).find? fun p : Nat => plFits T R S x ⟨(s : Int), (p : Int)⟩
def plFirst (T : Tab) (R S : Nat) (x : Dm) : Option Bk :=
  ((List.range S).find? fun s : Nat => (plIn T R S x s).isSome).bind fun s : Nat => (plIn T R S x s).map fun p : Nat => (⟨(s : Int), (p : Int)⟩ : Bk)
def plPlan (T : Tab) (R S : Nat) : Nat → List Dm → Option (List Bk)
  | _, [] => some []
  | i, x :: r => (plFirst T R S x).bind fun b => (plPlan (plPut T R x b (i : Int)) R S (i + 1) r).map fun l => b :: l
def plTab (T : Tab) (R S : Nat) : Nat → List Dm → List Bk → Option Tab
  | _, [], [] => some T
  | i, x :: r, b :: bs => if plFits T R S x b = true then plTab (plPut T R x b (i : Int)) R S (i + 1) r bs else none
  | _, _, _ => none
def plFrame (R S : Int) : Bool := isPow R && inRange 1 16 S
def planCode (t : List Dm) (R S : Int) : Int := if areDms t = false then 1 else if plFrame R S = false then 2 else 0
def planDemands (t : List Dm) (R S : Int) : List Bk × Int :=
  if planCode t R S ≠ 0 then ([], planCode t R S) else match plPlan tab0 R.toNat S.toNat 0 t with
    | none => ([], 4)
    | some l => (l, 0)
def plRows (T : Tab) (R S : Nat) : List (List Int) := (List.range R).map fun r => (List.range S).map (T r)
def planTable (t : List Dm) (R S : Int) (bs : List Bk) : List (List Int) × Int :=
  if planCode t R S ≠ 0 then ([], planCode t R S) else match plTab tab0 R.toNat S.toNat 0 t bs with
    | none => ([], 5)
    | some T => (plRows T R.toNat S.toNat, 0)
def arePossible (t : List Dm) (R S : Int) (bs : List Bk) : Bool := decide ((planTable t R S bs).2 = 0)
def plMost (l : List Bk) : Int := l.foldl (fun m b => max m (b.slot + 1)) 1
def slotsNeeded (t : List Dm) (R : Int) : Int × Int :=
  if areDms t = false then (0, 1) else if isPow R = false then (0, 2) else match plPlan tab0 R.toNat 16 0 t with
    | none => (0, 4)
    | some l => (plMost l, 0)
def plLoad (t : List Dm) : Int := (t.map fun x => 8 / x.every).sum
def loadOf (t : List Dm) : Int × Int := if areDms t = false then (0, 1) else (plLoad t, 0)
def plSorted (t : List Dm) : List Dm := t.filter (fun x => decide (x.every = 1)) ++ (t.filter (fun x => decide (x.every = 2)) ++ (t.filter (fun x => decide (x.every = 4)) ++ t.filter fun x => decide (x.every = 8)))
def sortDemands (t : List Dm) : List Dm × Int := if areDms t = false then ([], 1) else (plSorted t, 0)

/-! ### rounds of a phase -/
theorem plHits_iff {e p r : Nat} : plHits e p r = true ↔ p ≤ r ∧ (r - p) % e = 0 := by simp [plHits]
theorem plHits_step {e p j : Nat} : plHits e p (p + j * e) = true := by
  rw [plHits_iff]; refine ⟨by omega, ?_⟩
  rw [Nat.add_sub_cancel_left]; exact Nat.mul_mod_left j e
/-- Between two rounds of a phase there is none. -/
theorem plHits_gap {e p j r : Nat} (h1 : p + j * e < r) (h2 : r < p + (j + 1) * e) : plHits e p r = false := by
  cases h : plHits e p r with
  | false => rfl
  | true =>
    rw [plHits_iff] at h
    obtain ⟨h0, hm⟩ := h
    rw [Nat.succ_mul] at h2
    have hq : r - p = j * e + (r - p - j * e) := by omega
    have : (r - p - j * e) % e = 0 := by
      have h3 : (j * e + (r - p - j * e)) % e = (r - p - j * e) % e := by rw [Nat.add_comm, Nat.add_mul_mod_self_right]
      rw [← h3, ← hq]; exact hm
    rw [Nat.mod_eq_of_lt (by omega)] at this
    omega
theorem plHits_low {e p r : Nat} (h : r < p) : plHits e p r = false := by
  cases h' : plHits e p r with
  | false => rfl
  | true => rw [plHits_iff] at h'; omega
theorem plFree_iff {T : Tab} {e p s n : Nat} : plFree T e p s n = true ↔ ∀ r, r < n → plHits e p r = true → T r s = -1 := by
  simp only [plFree, List.all_eq_true, List.mem_range, Bool.or_eq_true, Bool.not_eq_true', decide_eq_true_eq]
  refine forall_congr' fun r => forall_congr' fun _ => ?_
  cases plHits e p r <;> simp
theorem plFree_start (T : Tab) (e p s : Nat) : plFree T e p s p = true := by
  rw [plFree_iff]; intro r hr hh; rw [plHits_low hr] at hh; cases hh
/-- One more round of the phase is free. -/
theorem plFree_next {T : Tab} {e p s j n : Nat} (h : plFree T e p s (p + j * e) = true) (hf : T (p + j * e) s = -1) (hn : n ≤ p + (j + 1) * e) : plFree T e p s n = true := by
  rw [plFree_iff] at h ⊢
  intro r hr hh
  by_cases h1 : r < p + j * e
  · exact h r h1 hh
  by_cases h2 : r = p + j * e
  · subst h2; exact hf
  · rw [plHits_gap (e := e) (p := p) (j := j) (r := r) (by omega) (by omega)] at hh; cases hh
theorem plFree_le {T : Tab} {e p s n m : Nat} (h : plFree T e p s n = true) (hm : m ≤ n) : plFree T e p s m = true := by
  rw [plFree_iff] at h ⊢; intro r hr; exact h r (by omega)
theorem plFree_not {T : Tab} {e p s j n : Nat} (hf : T (p + j * e) s ≠ -1) (hn : p + j * e < n) : plFree T e p s n = false := by
  cases h : plFree T e p s n with
  | false => rfl
  | true => exact absurd ((plFree_iff.1 h) _ hn plHits_step) hf
theorem plPutTo_start (T : Tab) (e p s : Nat) (i : Int) : plPutTo T e p s i p = T := by
  funext r k
  unfold plPutTo
  rw [if_neg]
  rintro ⟨-, h, h2⟩
  rw [plHits_low h2] at h; cases h
/-- One more round written. -/
theorem plPutTo_next (T : Tab) (e p s : Nat) (i : Int) (j : Nat) (he : 0 < e) : (fun r k => if k = s ∧ r = p + j * e then i else plPutTo T e p s i (p + j * e) r k) = plPutTo T e p s i (p + (j + 1) * e) := by
  funext r k
  unfold plPutTo
  by_cases hk : k = s
  · subst hk
    by_cases h1 : r = p + j * e
    · subst h1
      rw [if_pos ⟨rfl, rfl⟩, if_pos ⟨rfl, plHits_step, by rw [Nat.succ_mul]; omega⟩]
    · rw [if_neg (fun h => h1 h.2)]
      have hse : (j + 1) * e = j * e + e := Nat.succ_mul j e
      by_cases hh : plHits e p r = true
      · by_cases h2 : r < p + j * e
        · rw [if_pos ⟨rfl, hh, h2⟩, if_pos ⟨rfl, hh, by omega⟩]
        · rw [if_neg (fun h => h2 h.2.2), if_neg (fun h => by
            have := plHits_gap (e := e) (p := p) (j := j) (r := r) (by omega) h.2.2
            rw [this] at hh; cases hh)]
      · rw [if_neg (fun h => hh h.2.1), if_neg (fun h => hh h.2.1)]
  · rw [if_neg (fun h => hk h.1), if_neg (fun h => hk h.1), if_neg (fun h => hk h.1)]
theorem plPutTo_end (T : Tab) (e p s : Nat) (i : Int) (j n : Nat) (h : n ≤ p + j * e) : ∀ r k, r < n → plPutTo T e p s i (p + j * e) r k = plPutTo T e p s i n r k := by
  intro r k hr
  unfold plPutTo
  by_cases hk : k = s ∧ plHits e p r = true
  · rw [if_pos ⟨hk.1, hk.2, by omega⟩, if_pos ⟨hk.1, hk.2, hr⟩]
  · rw [if_neg (fun h => hk ⟨h.1, h.2.1⟩), if_neg (fun h => hk ⟨h.1, h.2.1⟩)]
/-- The same table below n rounds and m slots. -/
def sameTab (T U : Tab) (n m : Nat) : Prop := ∀ r s, r < n → s < m → T r s = U r s

/-! ### the first booking -/
theorem plFits_phase {T : Tab} {R S : Nat} {x : Dm} {b : Bk} (h : plFits T R S x b = true) : x.every ≤ R ∧ (0 ≤ b.slot ∧ b.slot ≤ (S : Int) - 1) ∧ (0 ≤ b.phase ∧ b.phase ≤ x.every - 1) ∧ plFree T x.every.toNat b.phase.toNat b.slot.toNat R = true := by
  simpa [plFits, inRange, and_assoc] using h
theorem plIn_some {T : Tab} {R S : Nat} {x : Dm} {s p : Nat} (hp : p < x.every.toNat) (h : plFits T R S x ⟨(s : Int), (p : Int)⟩ = true) (hb : ∀ q, q < p → plFits T R S x ⟨(s : Int), (q : Int)⟩ = false) : plIn T R S x s = some p := by
  unfold plIn
  rw [List.find?_range_eq_some]
  refine ⟨h, List.mem_range.2 hp, fun j hj => by simp [hb j hj]⟩
theorem plIn_none {T : Tab} {R S : Nat} {x : Dm} {s : Nat} (h : ∀ q, q < x.every.toNat → plFits T R S x ⟨(s : Int), (q : Int)⟩ = false) : plIn T R S x s = none := by
  unfold plIn
  rw [List.find?_eq_none]
  intro q hq
  simp [h q (List.mem_range.1 hq)]
theorem plIn_is {T : Tab} {R S : Nat} {x : Dm} {s p : Nat} (h : plIn T R S x s = some p) : p < x.every.toNat ∧ plFits T R S x ⟨(s : Int), (p : Int)⟩ = true := by
  unfold plIn at h
  rw [List.find?_range_eq_some] at h
  exact ⟨List.mem_range.1 h.2.1, h.1⟩
theorem plFirst_some {T : Tab} {R S : Nat} {x : Dm} {s p : Nat} (hs : s < S) (h : plIn T R S x s = some p) (hb : ∀ k, k < s → plIn T R S x k = none) : plFirst T R S x = some ⟨(s : Int), (p : Int)⟩ := by
  have h1 : (List.range S).find? (fun k => (plIn T R S x k).isSome) = some s := by
    rw [List.find?_range_eq_some]
    exact ⟨by rw [h]; rfl, List.mem_range.2 hs, fun j hj => by rw [hb j hj]; rfl⟩
  unfold plFirst
  rw [h1]
  simp [h]
theorem plFirst_none {T : Tab} {R S : Nat} {x : Dm} (hb : ∀ k, k < S → plIn T R S x k = none) : plFirst T R S x = none := by
  have h1 : (List.range S).find? (fun k => (plIn T R S x k).isSome) = none := by
    rw [List.find?_eq_none]
    intro k hk
    rw [hb k (List.mem_range.1 hk)]
    simp
  unfold plFirst
  rw [h1]; rfl
theorem plFirst_is {T : Tab} {R S : Nat} {x : Dm} {b : Bk} (h : plFirst T R S x = some b) : ∃ s p : Nat, b = ⟨(s : Int), (p : Int)⟩ ∧ s < S ∧ plIn T R S x s = some p ∧ ∀ k, k < s → plIn T R S x k = none := by
  unfold plFirst at h
  obtain ⟨s, h1, h2⟩ := Option.bind_eq_some_iff.1 h
  rw [List.find?_range_eq_some] at h1
  obtain ⟨p, h3, h4⟩ := Option.map_eq_some_iff.1 h2
  refine ⟨s, p, h4.symm, List.mem_range.1 h1.2.1, h3, fun k hk => ?_⟩
  have := h1.2.2 k hk
  cases hf : plIn T R S x k with
  | none => rfl
  | some q => rw [hf] at this; simp at this
theorem plFirst_fits {T : Tab} {R S : Nat} {x : Dm} {b : Bk} (h : plFirst T R S x = some b) : plFits T R S x b = true := by
  obtain ⟨s, p, rfl, -, h1, -⟩ := plFirst_is h
  exact (plIn_is h1).2

/-! ### tables that agree where it counts -/
theorem plFree_same {T U : Tab} {e p s n m : Nat} (h : sameTab T U n m) (hs : s < m) : plFree T e p s n = plFree U e p s n := by
  have : ∀ A B : Tab, sameTab A B n m → plFree A e p s n = true → plFree B e p s n = true := fun A B hab h1 => by
    rw [plFree_iff] at h1 ⊢
    intro r hr hh
    rw [← hab r s hr hs]; exact h1 r hr hh
  cases h1 : plFree T e p s n with
  | true => exact (this T U h h1).symm
  | false =>
    cases h2 : plFree U e p s n with
    | false => rfl
    | true => rw [this U T (fun r s a b => (h r s a b).symm) h2] at h1; cases h1
theorem plFits_same {T U : Tab} {R S : Nat} {x : Dm} {b : Bk} (h : sameTab T U R S) : plFits T R S x b = plFits U R S x b := by
  unfold plFits
  by_cases hs : 0 ≤ b.slot ∧ b.slot ≤ (S : Int) - 1
  · rw [plFree_same h (by omega)]
  · have : inRange 0 ((S : Int) - 1) b.slot = false := by
      cases hi : inRange 0 ((S : Int) - 1) b.slot with
      | false => rfl
      | true => simp [inRange] at hi; omega
    simp [this]
theorem plIn_same {T U : Tab} {R S : Nat} {x : Dm} {s : Nat} (h : sameTab T U R S) : plIn T R S x s = plIn U R S x s := by
  unfold plIn
  congr 1
  funext p
  exact plFits_same h
theorem plFirst_same {T U : Tab} {R S : Nat} {x : Dm} (h : sameTab T U R S) : plFirst T R S x = plFirst U R S x := by
  unfold plFirst
  simp only [plIn_same h]
theorem plPut_same {T U : Tab} {R S : Nat} {x : Dm} {b : Bk} {i : Int} (h : sameTab T U R S) : sameTab (plPut T R x b i) (plPut U R x b i) R S := by
  intro r s hr hs
  unfold plPut plPutTo
  split
  · rfl
  · exact h r s hr hs
theorem plPlan_same {R S : Nat} : ∀ (t : List Dm) {T U : Tab} (i : Nat), sameTab T U R S → plPlan T R S i t = plPlan U R S i t
  | [], _, _, _, _ => rfl
  | x :: r, T, U, i, h => by
    unfold plPlan
    rw [plFirst_same h]
    cases hf : plFirst U R S x with
    | none => rfl
    | some b => simp only [Option.bind_some]; rw [plPlan_same r (i + 1) (plPut_same h)]

/-! ### more slots -/
theorem plFits_more {T : Tab} {R S S' : Nat} {x : Dm} {b : Bk} (h : b.slot < S) (hS : S ≤ S') : plFits T R S' x b = plFits T R S x b := by
  unfold plFits inRange
  have h1 : b.slot ≤ (S : Int) - 1 := by omega
  have h2 : b.slot ≤ (S' : Int) - 1 := by omega
  simp [h1, h2]
theorem plIn_more {T : Tab} {R S S' : Nat} {x : Dm} {s : Nat} (h : s < S) (hS : S ≤ S') : plIn T R S' x s = plIn T R S x s := by
  unfold plIn
  congr 1
  funext p
  exact plFits_more (by show (s : Int) < S; omega) hS
theorem plFirst_more {T : Tab} {R S S' : Nat} {x : Dm} {b : Bk} (h : plFirst T R S x = some b) (hS : S ≤ S') : plFirst T R S' x = some b ∧ b.slot < S := by
  obtain ⟨s, p, rfl, hs, h1, h2⟩ := plFirst_is h
  refine ⟨plFirst_some (by omega) (by rw [plIn_more hs hS]; exact h1) (fun k hk => by rw [plIn_more (by omega) hS]; exact h2 k hk), by show (s : Int) < S; omega⟩
theorem plFirst_less {T : Tab} {R S S' : Nat} {x : Dm} {b : Bk} (h : plFirst T R S' x = some b) (hb : b.slot < S) (hS : S ≤ S') : plFirst T R S x = some b := by
  obtain ⟨s, p, rfl, hs, h1, h2⟩ := plFirst_is h
  have hs' : s < S := by have : (s : Int) < S := hb; omega
  exact plFirst_some hs' (by rw [← plIn_more hs' hS]; exact h1) (fun k hk => by rw [← plIn_more (S := S) (by omega) hS]; exact h2 k hk)
theorem plPlan_more {R S S' : Nat} (hS : S ≤ S') : ∀ (t : List Dm) (T : Tab) (i : Nat) {l : List Bk}, plPlan T R S i t = some l → plPlan T R S' i t = some l ∧ ∀ b ∈ l, b.slot < S
  | [], _, _, l, h => by
    simp only [plPlan, Option.some.injEq] at h ⊢
    subst h
    exact ⟨rfl, fun b hb => by cases hb⟩
  | x :: r, T, i, l, h => by
    simp only [plPlan] at h ⊢
    obtain ⟨b, hb, h2⟩ := Option.bind_eq_some_iff.1 h
    obtain ⟨l', h3, rfl⟩ := Option.map_eq_some_iff.1 h2
    obtain ⟨h4, h5⟩ := plFirst_more hb hS
    obtain ⟨h6, h7⟩ := plPlan_more hS r _ _ h3
    rw [h4]
    simp only [Option.bind_some, h6, Option.map_some]
    exact ⟨trivial, fun c hc => by rcases List.mem_cons.1 hc with rfl | hc; exact h5; exact h7 c hc⟩
theorem plPlan_less {R S S' : Nat} (hS : S ≤ S') : ∀ (t : List Dm) (T : Tab) (i : Nat) {l : List Bk}, plPlan T R S' i t = some l → (∀ b ∈ l, b.slot < S) → plPlan T R S i t = some l
  | [], _, _, l, h, _ => by simp only [plPlan, Option.some.injEq] at h ⊢; exact h
  | x :: r, T, i, l, h, hl => by
    simp only [plPlan] at h ⊢
    obtain ⟨b, hb, h2⟩ := Option.bind_eq_some_iff.1 h
    obtain ⟨l', h3, rfl⟩ := Option.map_eq_some_iff.1 h2
    rw [plFirst_less hb (hl b (by simp)) hS]
    simp only [Option.bind_some]
    rw [plPlan_less hS r _ _ h3 (fun c hc => hl c (by simp [hc]))]
    rfl
theorem plMost_ge (l : List Bk) : ∀ m : Int, m ≤ l.foldl (fun m b => max m (b.slot + 1)) m ∧ ∀ b ∈ l, b.slot < l.foldl (fun m b => max m (b.slot + 1)) m := by
  induction l with
  | nil => exact fun m => ⟨Int.le_refl _, fun b hb => by cases hb⟩
  | cons a r ih =>
    intro m
    obtain ⟨h1, h2⟩ := ih (max m (a.slot + 1))
    rw [List.foldl_cons]
    refine ⟨by omega, fun b hb => ?_⟩
    rcases List.mem_cons.1 hb with rfl | hb
    · omega
    · exact h2 b hb
theorem plMost_le (l : List Bk) : ∀ m M : Int, m ≤ M → (∀ b ∈ l, b.slot < M) → l.foldl (fun m b => max m (b.slot + 1)) m ≤ M := by
  induction l with
  | nil => exact fun m M h _ => h
  | cons a r ih =>
    intro m M h hl
    rw [List.foldl_cons]
    exact ih _ _ (by have := hl a (by simp); omega) (fun b hb => hl b (by simp [hb]))
/-- With S slots planning succeeds exactly if the greatest slot of the plan with 16 lies below. -/
theorem plPlan_most {T : Tab} {R S : Nat} {t : List Dm} {l : List Bk} (h : plPlan T R 16 0 t = some l) (h1 : 1 ≤ S) (hS : S ≤ 16) : (plPlan T R S 0 t).isSome = true ↔ plMost l ≤ S := by
  constructor
  · intro hs
    obtain ⟨l', hl'⟩ := Option.isSome_iff_exists.1 hs
    obtain ⟨h2, h3⟩ := plPlan_more hS t T 0 hl'
    rw [h] at h2
    cases h2
    exact plMost_le l 1 _ (by omega) h3
  · intro hm
    rw [plPlan_less hS t T 0 h (fun b hb => by have := (plMost_ge l 1).2 b hb; unfold plMost at hm; omega)]
    rfl
theorem plPlan_never {T : Tab} {R S : Nat} {t : List Dm} (h : plPlan T R 16 0 t = none) (hS : S ≤ 16) : plPlan T R S 0 t = none := by
  cases h1 : plPlan T R S 0 t with
  | none => rfl
  | some l => rw [(plPlan_more hS t T 0 h1).1] at h; cases h
theorem plPlan_len {R S : Nat} : ∀ (t : List Dm) (T : Tab) (i : Nat) {l : List Bk}, plPlan T R S i t = some l → l.length = t.length
  | [], _, _, l, h => by simp only [plPlan, Option.some.injEq] at h; subst h; rfl
  | x :: r, T, i, l, h => by
    simp only [plPlan] at h
    obtain ⟨b, hb, h2⟩ := Option.bind_eq_some_iff.1 h
    obtain ⟨l', h3, rfl⟩ := Option.map_eq_some_iff.1 h2
    simp [plPlan_len r _ _ h3]
/-- What planning gives is possible. -/
theorem plPlan_table {R S : Nat} : ∀ (t : List Dm) (T : Tab) (i : Nat) {l : List Bk}, plPlan T R S i t = some l → (plTab T R S i t l).isSome = true
  | [], _, _, l, h => by simp only [plPlan, Option.some.injEq] at h; subst h; rfl
  | x :: r, T, i, l, h => by
    simp only [plPlan] at h
    obtain ⟨b, hb, h2⟩ := Option.bind_eq_some_iff.1 h
    obtain ⟨l', h3, rfl⟩ := Option.map_eq_some_iff.1 h2
    unfold plTab
    rw [if_pos (plFirst_fits hb)]
    exact plPlan_table r _ _ h3
end Go.Proofs.Ytbbodgeoenjdkaa
