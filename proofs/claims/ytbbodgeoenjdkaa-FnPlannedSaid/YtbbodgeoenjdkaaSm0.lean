/-
  Stable sorting, plainly: rotations of a row of demands. No program is named here.
-/
import Derived.Test.YtbbodgeoenjdkaaPl0
namespace Go.Proofs.Ytbbodgeoenjdkaa

/-! ### a row as a function -/
def mkF (f : Nat → Dm) (n : Nat) : List Dm := (List.range n).map f
theorem mkF_len (f : Nat → Dm) (n : Nat) : (mkF f n).length = n := by simp [mkF]
theorem mkF_get (f : Nat → Dm) {n i : Nat} (h : i < n) : (mkF f n)[i]'(by rw [mkF_len]; exact h) = f i := by simp [mkF]
theorem mkF_getD (f : Nat → Dm) {n i : Nat} (h : i < n) (z : Dm) : (mkF f n).getD i z = f i := by
  rw [List.getD_eq_getElem?_getD, List.getElem?_eq_getElem (by rw [mkF_len]; exact h), Option.getD_some, mkF_get f h]
theorem mkF_congr {f h : Nat → Dm} {n : Nat} (e : ∀ i, i < n → f i = h i) : mkF f n = mkF h n := List.map_congr_left fun i hi => e i (List.mem_range.1 hi)
def updF (f : Nat → Dm) (i : Nat) (x : Dm) : Nat → Dm := fun k => if k = i then x else f k
theorem mkF_set (f : Nat → Dm) (n i : Nat) (x : Dm) : (mkF f n).set i x = mkF (updF f i x) n := by
  refine List.ext_getElem (by simp [mkF]) fun k h1 h2 => ?_
  rw [List.getElem_set]
  rw [mkF_len] at h2
  rw [mkF_get _ h2, mkF_get _ h2]
  unfold updF
  by_cases e : i = k
  · subst e; simp
  · have : ¬ k = i := fun h => e h.symm
    simp [e, this]
theorem mkF_of (t : List Dm) (z : Dm) : mkF (fun i => t.getD i z) t.length = t := by
  refine List.ext_getElem (by simp [mkF]) fun k h1 h2 => ?_
  rw [mkF_get _ h2, List.getD_eq_getElem?_getD, List.getElem?_eq_getElem h2, Option.getD_some]
/-- Two entries exchanged: first entry i is written, then entry j. -/
def swp (f : Nat → Dm) (i j : Nat) : Nat → Dm := fun x => if x = j then f i else if x = i then f j else f x
theorem swp_upd (f : Nat → Dm) (i j : Nat) : updF (updF f i (f j)) j (f i) = swp f i j := rfl
/-- The rows [p, p + n) and [q, q + n) exchanged. -/
def swR (f : Nat → Dm) (p q n : Nat) : Nat → Dm := fun x => if p ≤ x ∧ x < p + n then f (x - p + q) else if q ≤ x ∧ x < q + n then f (x - q + p) else f x
theorem swR_zero (f : Nat → Dm) (p q : Nat) : swR f p q 0 = f := by
  funext x; unfold swR; rw [if_neg (by omega), if_neg (by omega)]
theorem swR_next (f : Nat → Dm) {p q n : Nat} (h : p + n < q) : swp (swR f p q n) (p + n) (q + n) = swR f p q (n + 1) := by
  funext x
  unfold swp swR
  repeat' split
  all_goals first | rfl | (exact congrArg f (by omega)) | (exfalso; omega)
/-- [s, m) and [m, e) in the other order. -/
def rot (f : Nat → Dm) (s m e : Nat) : Nat → Dm := fun x => if s ≤ x ∧ x < s + (e - m) then f (x + (m - s)) else if s + (e - m) ≤ x ∧ x < e then f (x - (e - m)) else f x
theorem rot_none (f : Nat → Dm) (m e : Nat) (h : m ≤ e) : rot f m m e = f := by
  funext x; unfold rot
  repeat' split
  all_goals first | rfl | (exact congrArg f (by omega)) | (exfalso; omega)
theorem rot_none2 (f : Nat → Dm) (s m : Nat) (h : s ≤ m) : rot f s m m = f := by
  funext x; unfold rot
  repeat' split
  all_goals first | rfl | (exact congrArg f (by omega)) | (exfalso; omega)
/-- An entry moved up by one more. -/
theorem rot_up (f : Nat → Dm) {a k : Nat} (h : a ≤ k) : swp (rot f a (a + 1) (k + 1)) k (k + 1) = rot f a (a + 1) (k + 2) := by
  funext x; unfold swp rot
  repeat' split
  all_goals first | rfl | (exact congrArg f (by omega)) | (exfalso; omega)
/-- An entry moved down by one more. -/
theorem rot_down (f : Nat → Dm) {k m : Nat} (h : k + 1 ≤ m) : swp (rot f (k + 1) m (m + 1)) (k + 1) k = rot f k m (m + 1) := by
  funext x; unfold swp rot
  repeat' split
  all_goals first | rfl | (exact congrArg f (by omega)) | (exfalso; omega)
theorem rot_left (f : Nat → Dm) {m i j : Nat} (h : j < i) (hi : i ≤ m) : rot (swR f (m - i) m j) (m - (i - j)) m (m + j) = rot f (m - i) m (m + j) := by
  funext x; unfold rot swR
  repeat' split
  all_goals first | rfl | (exact congrArg f (by omega)) | (exfalso; omega)
theorem rot_right (f : Nat → Dm) {m i j : Nat} (h : i < j) (hi : i ≤ m) : rot (swR f (m - i) (m + j - i) i) (m - i) m (m + (j - i)) = rot f (m - i) m (m + j) := by
  funext x; unfold rot swR
  repeat' split
  all_goals first | rfl | (exact congrArg f (by omega)) | (exfalso; omega)
theorem rot_same (f : Nat → Dm) {m i : Nat} (hi : i ≤ m) : swR f (m - i) m i = rot f (m - i) m (m + i) := by
  funext x; unfold rot swR
  repeat' split
  all_goals first | rfl | (exact congrArg f (by omega)) | (exfalso; omega)
theorem rot_out (f : Nat → Dm) {s m e x : Nat} (h : x < s ∨ e ≤ x) (h1 : s ≤ m) (h2 : m ≤ e) : rot f s m e x = f x := by
  unfold rot
  rw [if_neg (by omega), if_neg (by omega)]
theorem rot_lo (f : Nat → Dm) {s m e x : Nat} (h : s ≤ x) (h1 : x < s + (e - m)) : rot f s m e x = f (x + (m - s)) := by
  unfold rot
  rw [if_pos ⟨h, h1⟩]
theorem rot_hi (f : Nat → Dm) {s m e x : Nat} (h : s + (e - m) ≤ x) (h1 : x < e) : rot f s m e x = f (x - (e - m)) := by
  unfold rot
  rw [if_neg (by omega), if_pos ⟨h, h1⟩]

/-! ### the same entries in the same order for each period -/
def SmF (n : Nat) (f h : Nat → Dm) : Prop := ∀ k : Int, (mkF f n).filter (fun x => decide (x.every = k)) = (mkF h n).filter fun x => decide (x.every = k)
theorem SmF.refl (n : Nat) (f : Nat → Dm) : SmF n f f := fun _ => rfl
theorem SmF.trans {n : Nat} {f h g : Nat → Dm} (h1 : SmF n f h) (h2 : SmF n h g) : SmF n f g := fun k => (h1 k).trans (h2 k)
def segF (f : Nat → Dm) (a n : Nat) : List Dm := (List.range n).map fun i => f (a + i)
theorem mkF_seg (f : Nat → Dm) (n : Nat) : mkF f n = segF f 0 n := by simp [mkF, segF]
theorem segF_add (f : Nat → Dm) (a m n : Nat) : segF f a (m + n) = segF f a m ++ segF f (a + m) n := by
  unfold segF
  rw [List.range_add, List.map_append, List.map_map]
  congr 1
  exact List.map_congr_left fun i _ => by simp [Nat.add_assoc]
theorem segF_congr {f h : Nat → Dm} {a b n : Nat} (e : ∀ i, i < n → f (a + i) = h (b + i)) : segF f a n = segF h b n := List.map_congr_left fun i hi => e i (List.mem_range.1 hi)
theorem segF_mem {f : Nat → Dm} {a n : Nat} {x : Dm} (h : x ∈ segF f a n) : ∃ i, a ≤ i ∧ i < a + n ∧ f i = x := by
  obtain ⟨i, hi, rfl⟩ := List.mem_map.1 h
  exact ⟨a + i, by omega, by have := List.mem_range.1 hi; omega, rfl⟩
/-- A rotation keeps the order of each period if all periods of the second part lie below those of the first. -/
theorem SmF.rot {f : Nat → Dm} {s m e n : Nat} (h1 : s ≤ m) (h2 : m ≤ e) (h3 : e ≤ n) (hk : ∀ i j, s ≤ i → i < m → m ≤ j → j < e → (f j).every < (f i).every) : SmF n (rot f s m e) f := by
  intro k
  obtain ⟨u, rfl⟩ : ∃ u, m = s + u := ⟨m - s, by omega⟩
  obtain ⟨v, rfl⟩ : ∃ v, e = s + u + v := ⟨e - (s + u), by omega⟩
  obtain ⟨z, rfl⟩ : ∃ z, n = s + (u + (v + z)) := ⟨n - (s + u + v), by omega⟩
  have e1 : mkF f (s + (u + (v + z))) = segF f 0 s ++ (segF f s u ++ (segF f (s + u) v ++ segF f (s + u + v) z)) := by
    rw [mkF_seg, segF_add, segF_add, segF_add, Nat.zero_add]
  have e2 : mkF (Proofs.Ytbbodgeoenjdkaa.rot f s (s + u) (s + u + v)) (s + (u + (v + z))) = segF f 0 s ++ (segF f (s + u) v ++ (segF f s u ++ segF f (s + u + v) z)) := by
    rw [show s + (u + (v + z)) = s + (v + (u + z)) from by omega, mkF_seg, segF_add, segF_add, segF_add, Nat.zero_add]
    congr 1
    · exact segF_congr fun i hi => rot_out f (by omega) (by omega) (by omega)
    congr 1
    · exact segF_congr fun i hi => by rw [rot_lo f (by omega) (by omega)]; exact congrArg f (by omega)
    congr 1
    · exact segF_congr fun i hi => by rw [rot_hi f (by omega) (by omega)]; exact congrArg f (by omega)
    · exact segF_congr fun i hi => by rw [rot_out f (by omega) (by omega) (by omega)]; exact congrArg f (by omega)
  rw [e1, e2]
  simp only [List.filter_append]
  congr 1
  rw [← List.append_assoc, ← List.append_assoc]
  congr 1
  by_cases hu : ∃ x ∈ segF f s u, x.every = k
  · obtain ⟨x, hx, hxk⟩ := hu
    obtain ⟨i, i1, i2, rfl⟩ := segF_mem hx
    have : (segF f (s + u) v).filter (fun x => decide (x.every = k)) = [] := by
      rw [List.filter_eq_nil_iff]
      intro y hy
      obtain ⟨j, j1, j2, rfl⟩ := segF_mem hy
      have := hk i j i1 i2 j1 j2
      simp; omega
    rw [this, List.nil_append, List.append_nil]
  · have : (segF f s u).filter (fun x => decide (x.every = k)) = [] := by
      rw [List.filter_eq_nil_iff]
      intro y hy
      simp
      exact fun h => hu ⟨y, hy, h⟩
    rw [this, List.nil_append, List.append_nil]
def SdF (f : Nat → Dm) (a b : Nat) : Prop := ∀ i j, a ≤ i → i ≤ j → j < b → (f i).every ≤ (f j).every
/-- What a sort or a merge of [a, b) leaves. -/
structure MgF (n : Nat) (f h : Nat → Dm) (a b : Nat) : Prop where
  out : ∀ x, x < a ∨ b ≤ x → h x = f x
  sd : SdF h a b
  sm : SmF n h f
  inn : ∀ x, a ≤ x → x < b → ∃ y, a ≤ y ∧ y < b ∧ h x = f y
/-- A row that is sorted and has the same entries is the sorted list. -/
theorem sorted_is : ∀ r : List Dm, (∀ x ∈ r, isPow x.every = true) → r.Pairwise (fun x y => x.every ≤ y.every) → r = plSorted r := by
  intro r hr hp
  induction r with
  | nil => rfl
  | cons a r ih =>
    obtain ⟨h1, h2⟩ := List.pairwise_cons.1 hp
    have ih := ih (fun x hx => hr x (List.mem_cons_of_mem _ hx)) h2
    have ha := isPow_iff.1 (hr a (List.mem_cons_self ..))
    have nil : ∀ k : Int, k < a.every → r.filter (fun x => decide (x.every = k)) = [] := fun k hk => by
      rw [List.filter_eq_nil_iff]
      intro y hy
      have := h1 y hy
      simp; omega
    unfold plSorted at ih ⊢
    rcases ha with e | e | e | e <;> simp only [List.filter_cons, e] <;> simp <;> (try rw [nil 1 (by omega)] at ih ⊢) <;> (try rw [nil 2 (by omega)] at ih ⊢) <;> (try rw [nil 4 (by omega)] at ih ⊢) <;> simpa using ih
end Go.Proofs.Ytbbodgeoenjdkaa
