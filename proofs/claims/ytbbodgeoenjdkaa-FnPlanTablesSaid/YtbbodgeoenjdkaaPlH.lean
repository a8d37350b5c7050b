/-
  Chapter 16: how often a demand stands in its table. No program is named here.
-/
import Derived.Test.YtbbodgeoenjdkaaPl0
namespace Go.Proofs.Ytbbodgeoenjdkaa

def hitsN (e p R : Nat) : Nat := (List.range R).countP fun r => plHits e p r
theorem hitsN_pow : ∀ R ∈ [1, 2, 4, 8], ∀ e ∈ [1, 2, 4, 8], e ≤ R → ∀ p, p < e → hitsN e p R = R / e := by decide +kernel
def cntT (U : Tab) (R S : Nat) (v : Int) : Nat := ((List.range R).map fun r => ((List.range S).map (U r)).count v).sum
theorem count_one {f g : Nat → Int} {v : Int} {s : Nat} : ∀ S : Nat, s < S → (∀ k, k ≠ s → f k = g k) → g s ≠ v → ((List.range S).map f).count v = ((List.range S).map g).count v + if f s = v then 1 else 0
  | 0, h, _, _ => absurd h (by omega)
  | S + 1, h, hk, hg => by
    rw [List.range_succ, List.map_append, List.map_append, List.count_append, List.count_append]
    by_cases e : s = S
    · subst e
      have : (List.range s).map f = (List.range s).map g := List.map_congr_left fun k hm => hk k (by have := List.mem_range.1 hm; omega)
      rw [this]
      simp [List.count_cons, hg]
    · rw [count_one S (by omega) hk hg]
      have : f S = g S := hk S (fun x => e x.symm)
      simp only [List.map_cons, List.map_nil, this]
      omega
theorem sum_count {F A : Nat → Nat} {P : Nat → Bool} : ∀ R : Nat, (∀ r, r < R → F r = A r + if P r = true then 1 else 0) → ((List.range R).map F).sum = ((List.range R).map A).sum + (List.range R).countP P
  | 0, _ => rfl
  | R + 1, h => by
    rw [List.range_succ, List.map_append, List.map_append, List.sum_append, List.sum_append, List.countP_append, sum_count R (fun r hr => h r (by omega))]
    have := h R (by omega)
    simp only [List.map_cons, List.map_nil, List.sum_cons, List.sum_nil, List.countP_cons, List.countP_nil]
    omega
theorem cntT_zero {U : Tab} {R S : Nat} {v : Int} (h : ∀ r s, r < R → s < S → U r s ≠ v) : cntT U R S v = 0 := by
  unfold cntT
  rw [List.sum_eq_zero_iff_forall_eq_nat]
  intro x hx
  obtain ⟨r, hr, rfl⟩ := List.mem_map.1 hx
  rw [List.count_eq_zero]
  intro hm
  obtain ⟨s, hs, e⟩ := List.mem_map.1 hm
  exact h r s (List.mem_range.1 hr) (List.mem_range.1 hs) e
theorem cntT_put {T : Tab} {R S : Nat} {x : Dm} {b : Bk} {i v : Int} (h : plFits T R S x b = true) (hv : v ≠ -1) : cntT (plPut T R x b i) R S v = cntT T R S v + if v = i then hitsN x.every.toNat b.phase.toNat R else 0 := by
  obtain ⟨-, h1, h2, h3⟩ := plFits_phase h
  have hs : b.slot.toNat < S := by omega
  rw [plFree_iff] at h3
  have key : ∀ r, r < R → ((List.range S).map (plPut T R x b i r)).count v = ((List.range S).map (T r)).count v + if (decide (v = i) && plHits x.every.toNat b.phase.toNat r) = true then 1 else 0 := by
    intro r hr
    by_cases hh : plHits x.every.toNat b.phase.toNat r = true
    · have e1 : plPut T R x b i r b.slot.toNat = i := by unfold plPut plPutTo; rw [if_pos ⟨rfl, hh, hr⟩]
      rw [count_one (f := plPut T R x b i r) (g := T r) (s := b.slot.toNat) S hs (fun k hk => by unfold plPut plPutTo; rw [if_neg (fun h => hk h.1)]) (by rw [h3 r hr hh]; exact fun e => hv e.symm), e1, hh]
      by_cases e : v = i
      · simp [e]
      · have : ¬ i = v := fun h => e h.symm
        simp [e, this]
    · have e1 : plPut T R x b i r = T r := by funext k; unfold plPut plPutTo; rw [if_neg (fun h => hh h.2.1)]
      rw [e1]
      simp [hh]
  unfold cntT
  rw [sum_count (P := fun r => decide (v = i) && plHits x.every.toNat b.phase.toNat r) R key]
  by_cases e : v = i
  · simp [e, hitsN]
  · simp [e]
theorem plPut_lt {T : Tab} {R : Nat} {x : Dm} {b : Bk} {i : Nat} (h : ∀ r s, -1 ≤ T r s ∧ T r s < (i : Int)) (r s : Nat) : -1 ≤ plPut T R x b (i : Int) r s ∧ plPut T R x b (i : Int) r s < ((i + 1 : Nat) : Int) := by
  have := h r s
  unfold plPut plPutTo
  split <;> omega
theorem plTab_count {R S : Nat} (hR : isPow (R : Int) = true) : ∀ (t : List Dm) (T : Tab) (i : Nat) (bs : List Bk) (U : Tab), plTab T R S i t bs = some U → (∀ x ∈ t, isPow x.every = true) → (∀ r s, -1 ≤ T r s ∧ T r s < (i : Int)) →
    (∀ v : Int, v ≠ -1 → v < (i : Int) → cntT U R S v = cntT T R S v) ∧ (∀ j, (hj : j < t.length) → cntT U R S ((i + j : Nat) : Int) = R / (t[j]).every.toNat) ∧ ∀ r s, -1 ≤ U r s ∧ U r s < ((i + t.length : Nat) : Int)
  | [], T, i, [], U, h, _, hT => by
    simp only [plTab, Option.some.injEq] at h
    subst h
    exact ⟨fun _ _ _ => rfl, fun j hj => absurd hj (by simp), fun r s => by have := hT r s; simpa using this⟩
  | x :: t, T, i, b :: bs, U, h, hx, hT => by
    unfold plTab at h
    by_cases hf : plFits T R S x b = true
    · rw [if_pos hf] at h
      obtain ⟨h1, h2, h3⟩ := plTab_count hR t _ (i + 1) bs U h (fun y hy => hx y (List.mem_cons_of_mem _ hy)) (plPut_lt hT)
      refine ⟨fun v hv hlt => ?_, fun j hj => ?_, fun r s => ?_⟩
      · rw [h1 v hv (by omega), cntT_put hf hv, if_neg (by omega)]; omega
      · cases j with
        | zero =>
          rw [Nat.add_zero, h1 _ (by omega) (by omega), cntT_put hf (by omega), if_pos rfl, cntT_zero (fun r s _ _ => by have := hT r s; omega)]
          obtain ⟨a1, -, a2, -⟩ := plFits_phase hf
          have a3 := isPow_iff.1 (hx x (List.mem_cons_self ..))
          have a4 := isPow_iff.1 hR
          have := hitsN_pow R (by simp; omega) x.every.toNat (by simp; omega) (by omega) b.phase.toNat (by omega)
          simpa using this
        | succ j =>
          have := h2 j (by simpa using hj)
          rw [show i + (j + 1) = i + 1 + j from by omega]
          simpa using this
      · have := h3 r s
        simp only [List.length_cons]
        omega
    · rw [if_neg hf] at h; cases h
  | [], _, _, _ :: _, _, h, _, _ => by simp [plTab] at h
  | _ :: _, _, _, [], _, h, _, _ => by simp [plTab] at h

/-! ### counting by a list -/
def bump (xs : List Int) (k : Nat) : List Int := xs.set k (xs.getD k 0 + 1)
def cntL (n : Nat) (cs : List Int) : List Int := cs.foldl (fun xs c => bump xs (c + 1).toNat) (List.replicate (n + 1) 0)
theorem cntL_nil (n : Nat) : cntL n [] = List.replicate (n + 1) 0 := rfl
theorem cntL_snoc (n : Nat) (cs : List Int) (c : Int) : cntL n (cs ++ [c]) = bump (cntL n cs) (c + 1).toNat := by simp [cntL, List.foldl_append]
theorem bump_len (xs : List Int) (k : Nat) : (bump xs k).length = xs.length := by simp [bump]
theorem snoc_rec {P : List Int → Prop} (h0 : P []) (h1 : ∀ cs c, P cs → P (cs ++ [c])) (cs : List Int) : P cs := by
  have : ∀ l : List Int, P l.reverse := fun l => by
    induction l with
    | nil => exact h0
    | cons a r ih => rw [List.reverse_cons]; exact h1 _ _ ih
  have := this cs.reverse
  rwa [List.reverse_reverse] at this
theorem cntL_len (n : Nat) (cs : List Int) : (cntL n cs).length = n + 1 := by
  induction cs using snoc_rec with
  | h0 => simp [cntL_nil]
  | h1 cs c ih => rw [cntL_snoc, bump_len, ih]
theorem bump_get {xs : List Int} {k j : Nat} (hk : k < xs.length) : (bump xs k).getD j 0 = xs.getD j 0 + if j = k then 1 else 0 := by
  unfold bump
  simp only [List.getD_eq_getElem?_getD, List.getElem?_set]
  by_cases e : k = j
  · subst e; simp [hk]
  · have : ¬ j = k := fun h => e h.symm
    simp [e, this]
theorem cntL_get {n : Nat} {cs : List Int} : (∀ c ∈ cs, -1 ≤ c ∧ c < (n : Int)) → ∀ j, (cntL n cs).getD j 0 = (cs.count ((j : Int) - 1) : Nat) := by
  induction cs using snoc_rec with
  | h0 => intro _ j; rw [cntL_nil]; by_cases h : j < n + 1 <;> simp [List.getD_eq_getElem?_getD, h]
  | h1 cs c ih =>
    intro hc j
    have h1 := hc c (by simp)
    rw [cntL_snoc, bump_get (by rw [cntL_len]; omega), ih (fun d hd => hc d (by simp [hd])), List.count_append]
    by_cases e : j = (c + 1).toNat
    · have : c = (j : Int) - 1 := by omega
      rw [if_pos e, ← this]
      simp
    · have : ¬ c = (j : Int) - 1 := by omega
      rw [if_neg e]
      simp [this]
theorem set_sum : ∀ (xs : List Int) (k : Nat) (v : Int), k < xs.length → (xs.set k v).sum = xs.sum - xs.getD k 0 + v
  | a :: r, 0, v, _ => by simp; omega
  | a :: r, k + 1, v, h => by
    have := set_sum r k v (by simpa using h)
    simp only [List.set_cons_succ, List.sum_cons, this, List.getD_cons_succ]
    omega
  | [], _, _, h => absurd h (by simp)
theorem cntL_sum {n : Nat} {cs : List Int} : (∀ c ∈ cs, -1 ≤ c ∧ c < (n : Int)) → (cntL n cs).sum = cs.length := by
  induction cs using snoc_rec with
  | h0 => intro _; rw [cntL_nil]; simp [List.sum_replicate_int]
  | h1 cs c ih =>
    intro hc
    have h1 := hc c (by simp)
    rw [cntL_snoc, bump, set_sum _ _ _ (by rw [cntL_len]; omega), ih (fun d hd => hc d (by simp [hd]))]
    simp
    omega
theorem plRows_cells {U : Tab} {R S : Nat} {lo hi : Int} (h : ∀ r s, lo ≤ U r s ∧ U r s < hi) {row : List Int} (hr : row ∈ plRows U R S) : row.length = S ∧ ∀ c ∈ row, lo ≤ c ∧ c < hi := by
  obtain ⟨r, -, rfl⟩ := List.mem_map.1 hr
  refine ⟨by simp, fun c hc => ?_⟩
  obtain ⟨s, -, rfl⟩ := List.mem_map.1 hc
  exact h r s
theorem flat_count (U : Tab) (R S : Nat) (v : Int) : (plRows U R S).flatten.count v = cntT U R S v := by
  unfold plRows cntT
  rw [List.count_flatten, List.map_map]
  rfl
theorem flat_all (U : Tab) (R S : Nat) : (plRows U R S).flatten.length = R * S := by
  unfold plRows
  rw [List.length_flatten, List.map_map, show (List.length ∘ fun r => (List.range S).map (U r)) = fun _ => S from by funext r; simp, List.map_const', List.sum_replicate_nat, List.length_range]
/-- What the law of plans asks. -/
theorem table_law {t : List Dm} {R S : Nat} {bs : List Bk} {U : Tab} (hR : isPow (R : Int) = true) (hd : ∀ x ∈ t, isPow x.every = true) (h : plTab tab0 R S 0 t bs = some U) :
    (∀ row ∈ plRows U R S, row.length = S ∧ ∀ c ∈ row, -1 ≤ c ∧ c < (t.length : Int)) ∧ (∀ j, (hj : j < t.length) → (cntL t.length (plRows U R S).flatten).getD (j + 1) 0 = ((R / (t[j]).every.toNat : Nat) : Int)) ∧ (cntL t.length (plRows U R S).flatten).sum = ((R * S : Nat) : Int) := by
  obtain ⟨-, h2, h3⟩ := plTab_count hR t tab0 0 bs U h hd (fun r s => by simp [tab0])
  have h3' : ∀ r s, -1 ≤ U r s ∧ U r s < (t.length : Int) := fun r s => by have := h3 r s; simpa using this
  have hrow := fun row (hr : row ∈ plRows U R S) => plRows_cells h3' hr
  have hall : ∀ c ∈ (plRows U R S).flatten, -1 ≤ c ∧ c < (t.length : Int) := fun c hc => by
    obtain ⟨row, hr, hm⟩ := List.mem_flatten.1 hc
    exact (hrow row hr).2 c hm
  refine ⟨hrow, fun j hj => ?_, ?_⟩
  · rw [cntL_get hall, show ((j + 1 : Nat) : Int) - 1 = ((0 + j : Nat) : Int) from by omega, flat_count, h2 j hj]
  · rw [cntL_sum hall, flat_all]
end Go.Proofs.Ytbbodgeoenjdkaa
