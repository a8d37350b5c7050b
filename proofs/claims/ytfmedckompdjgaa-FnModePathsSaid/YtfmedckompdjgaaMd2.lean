/-
  Chapter 11's search by breadth, plainly: a list of the modes that were met, and each one's distance. No program is named here.
-/
import Derived.Test.YtfmedckompdjgaaMd1
namespace Go.Proofs.Ytfmedckompdjgaa

theorem walk_snoc {t : List Md} : ∀ n i j, walk t (n + 1) i j ↔ ∃ k : Nat, walk t n i k ∧ (j : Int) ∈ (mdOf t k).next
  | 0, i, j => by
    constructor
    · rintro ⟨k, hk, e⟩
      have e : k = j := e
      subst e
      exact ⟨i, rfl, hk⟩
    · rintro ⟨k, e, hk⟩
      have e : i = k := e
      subst e
      exact ⟨j, hk, rfl⟩
  | n + 1, i, j => by
    constructor
    · rintro ⟨k, hk, hw⟩
      obtain ⟨m, h1, h2⟩ := (walk_snoc n k j).1 hw
      exact ⟨m, ⟨k, hk, h1⟩, h2⟩
    · rintro ⟨m, ⟨k, hk, h1⟩, h2⟩
      exact ⟨k, hk, (walk_snoc n k j).2 ⟨m, h1, h2⟩⟩
/-- The distances from a mode to those that can be reached. -/
def graphD (t : List Md) (s : Nat) : Int → Option Int := fun x => if (0 ≤ x ∧ x < t.length) ∧ 0 ≤ dist t x.toNat s then some (dist t x.toNat s) else none
def valf (f : Int → Option Int) (x : Int) : Int := (f x).getD 0
/-- The next modes of the i-th mode that was met. -/
def nextOf (t : List Md) (R : List Int) (i : Nat) : List Int := (mdOf t (R.getD i 0).toNat).next
structure Bfs (t : List Md) (s : Nat) (R : List Int) (f : Int → Option Int) (i q : Nat) : Prop where
  first : (s : Int) ∈ R ∧ valf f s = 0
  here : ∀ x ∈ R, (0 ≤ x ∧ x < t.length) ∧ ∃ d : Nat, f x = some (d : Int) ∧ walk t d s x.toNat
  only : ∀ x, f x ≠ none → x ∈ R
  nodup : R.Nodup
  rises : ∀ j k, j ≤ k → k < R.length → valf f (R.getD j 0) ≤ valf f (R.getD k 0)
  near : i < R.length → ∀ x ∈ R, valf f x ≤ valf f (R.getD i 0) + 1
  done : ∀ j, j < i → ∀ y ∈ nextOf t R j, ∃ e, f y = some e ∧ e ≤ valf f (R.getD j 0) + 1
  part : ∀ p, p < q → ∃ e, f ((nextOf t R i).getD p 0) = some e ∧ e ≤ valf f (R.getD i 0) + 1
  le : i ≤ R.length
  lim : ∀ x ∈ R, valf f x < R.length
theorem getD_memR {R : List Int} {i : Nat} (h : i < R.length) : R.getD i 0 ∈ R := by
  rw [List.getD_eq_getElem?_getD, List.getElem?_eq_getElem h]
  exact List.getElem_mem _
section
variable {t : List Md} {s : Nat} {R : List Int} {f : Int → Option Int} {i q : Nat}
theorem Bfs.start (hs : s < t.length) : Bfs t s [(s : Int)] (fun z => if z = (s : Int) then some 0 else none) 0 0 := by
  refine ⟨⟨by simp, by simp [valf]⟩, fun x hx => ?_, fun x hx => ?_, by simp, fun j k hjk hk => ?_, fun _ x hx => ?_, fun j hj => by omega, fun p hp => by omega, Nat.zero_le _, fun x hx => ?_⟩
  · rw [List.mem_singleton] at hx
    subst hx
    exact ⟨⟨by omega, by omega⟩, 0, by simp, by rw [Int.toNat_natCast]; exact rfl⟩
  · by_cases e : x = (s : Int)
    · simp [e]
    · simp [e] at hx
  · rw [List.length_singleton] at hk
    obtain rfl : k = 0 := by omega
    obtain rfl : j = 0 := by omega
    exact Int.le_refl _
  · rw [List.mem_singleton] at hx
    subst hx
    simp [valf]
  · rw [List.mem_singleton] at hx
    subst hx
    simp [valf]
theorem Bfs.old (h : Bfs t s R f i q) (hi : i < R.length) (hf : f ((nextOf t R i).getD q 0) ≠ none) : Bfs t s R f i (q + 1) := by
  refine { h with part := fun p hp => ?_ }
  by_cases e : p < q
  · exact h.part p e
  · obtain rfl : p = q := by omega
    obtain ⟨-, d, h1, -⟩ := h.here _ (h.only _ hf)
    refine ⟨d, h1, ?_⟩
    have := h.near hi _ (h.only _ hf)
    unfold valf at this
    rw [h1] at this
    exact this
theorem Bfs.turn (h : Bfs t s R f i q) (hi : i < R.length) (hq : q = (nextOf t R i).length) : Bfs t s R f (i + 1) 0 := by
  refine { h with near := fun hi2 x hx => ?_, done := fun j hj y hy => ?_, part := fun p hp => by omega, le := hi }
  · have h1 := h.near hi x hx
    have h2 := h.rises i (i + 1) (by omega) hi2
    omega
  · by_cases e : j < i
    · exact h.done j e y hy
    · obtain rfl : j = i := by omega
      obtain ⟨p, hp, rfl⟩ := List.getElem_of_mem hy
      have := h.part p (by omega)
      rw [List.getD_eq_getElem?_getD, List.getElem?_eq_getElem hp] at this
      exact this
theorem Bfs.new (ht : isModes t = true) (h : Bfs t s R f i q) (hi : i < R.length) (hq : q < (nextOf t R i).length) (hf : f ((nextOf t R i).getD q 0) = none) :
    Bfs t s (R ++ [(nextOf t R i).getD q 0]) (fun z => if z = (nextOf t R i).getD q 0 then some (valf f (R.getD i 0) + 1) else f z) i (q + 1) := by
  obtain ⟨y, hy⟩ : ∃ y, y = (nextOf t R i).getD q 0 := ⟨_, rfl⟩
  obtain ⟨f', hf'⟩ : ∃ f' : Int → Option Int, f' = fun z => if z = y then some (valf f (R.getD i 0) + 1) else f z := ⟨_, rfl⟩
  rw [← hy] at hf ⊢
  rw [← hf']
  have hym : y ∈ nextOf t R i := by rw [hy]; exact getD_memR hq
  have hyR : y ∉ R := fun e => by
    obtain ⟨-, d, h1, -⟩ := h.here y e
    rw [hf] at h1
    cases h1
  have hne : ∀ x ∈ R, f' x = f x := fun x hx => by
    rw [hf']
    exact if_neg fun e : x = y => hyR (by rw [← e]; exact hx)
  have hv : ∀ x ∈ R, valf f' x = valf f x := fun x hx => by unfold valf; rw [hne x hx]
  have hfy : f' y = some (valf f (R.getD i 0) + 1) := by rw [hf']; exact if_pos rfl
  have hvy : valf f' y = valf f (R.getD i 0) + 1 := by unfold valf; rw [hfy]; rfl
  have hgt : ∀ k, k < R.length → (R ++ [y]).getD k 0 = R.getD k 0 := fun k hk => by
    simp only [List.getD]
    rw [List.getElem?_append_left hk]
  have hgl : (R ++ [y]).getD R.length 0 = y := by simp [List.getD]
  have hle : ∀ x e, f x = some e → ∃ e', f' x = some e' ∧ e' = e := fun x e hx => by
    rw [hne x (h.only x (by rw [hx]; simp))]
    exact ⟨e, hx, rfl⟩
  have hnx : ∀ j, j < R.length → nextOf t (R ++ [y]) j = nextOf t R j := fun j hj => by unfold nextOf; rw [hgt j hj]
  have hi1 := h.le
  refine ⟨⟨List.mem_append_left _ h.first.1, by rw [hv _ h.first.1]; exact h.first.2⟩, fun x hx => ?_, fun x hx => ?_, ?_, fun j k hjk hk => ?_, fun _ x hx => ?_, fun j hj z hz => ?_, fun p hp => ?_, by rw [List.length_append]; omega, fun x hx => ?_⟩
  · rcases List.mem_append.1 hx with hx | hx
    · obtain ⟨h1, d, h2, h3⟩ := h.here x hx
      exact ⟨h1, d, by rw [hne x hx]; exact h2, h3⟩
    · rw [List.mem_singleton] at hx
      subst hx
      obtain ⟨h1, d, h2, h3⟩ := h.here _ (getD_memR hi)
      have hr := next_in ht _ x hym
      refine ⟨hr, d + 1, ?_, (walk_snoc d s _).2 ⟨_, h3, ?_⟩⟩
      · rw [hfy]
        unfold valf
        rw [h2]
        rfl
      · rw [Int.toNat_of_nonneg hr.1]
        exact hym
  · by_cases e : x = y
    · rw [e]; simp
    · refine List.mem_append_left _ (h.only x ?_)
      rw [hf'] at hx
      simp only [if_neg e] at hx
      exact hx
  · rw [List.nodup_append]
    refine ⟨h.nodup, by simp, fun a ha b hb e => ?_⟩
    rw [List.mem_singleton] at hb
    exact hyR (by rw [← hb, ← e]; exact ha)
  · rw [List.length_append, List.length_singleton] at hk
    by_cases e : k < R.length
    · rw [hgt k e, hgt j (by omega), hv _ (getD_memR e), hv _ (getD_memR (by omega))]
      exact h.rises j k hjk e
    · obtain rfl : k = R.length := by omega
      rw [hgl]
      by_cases e2 : j < R.length
      · rw [hgt j e2, hv _ (getD_memR e2), hvy]
        exact h.near hi _ (getD_memR e2)
      · obtain rfl : j = R.length := by omega
        rw [hgl]
        exact Int.le_refl _
  · rw [hgt i hi, hv _ (getD_memR hi)]
    rcases List.mem_append.1 hx with hx | hx
    · rw [hv x hx]
      exact h.near hi x hx
    · rw [List.mem_singleton] at hx
      rw [hx, hvy]
      exact Int.le_refl _
  · rw [hnx j (by omega)] at hz
    rw [hgt j (by omega), hv _ (getD_memR (by omega))]
    obtain ⟨e, h1, h2⟩ := h.done j hj z hz
    obtain ⟨e', h3, rfl⟩ := hle z e h1
    exact ⟨e', h3, h2⟩
  · rw [hnx i hi, hgt i hi, hv _ (getD_memR hi)]
    by_cases e : p < q
    · obtain ⟨e, h1, h2⟩ := h.part p e
      obtain ⟨e', h3, rfl⟩ := hle _ e h1
      exact ⟨e', h3, h2⟩
    · obtain rfl : p = q := by omega
      rw [← hy]
      exact ⟨_, hfy, Int.le_refl _⟩
  · rw [List.length_append, List.length_singleton]
    rcases List.mem_append.1 hx with hx | hx
    · rw [hv x hx]
      have := h.lim x hx
      omega
    · rw [List.mem_singleton] at hx
      rw [hx, hvy]
      have := h.lim _ (getD_memR hi)
      omega
/-- No more modes are met than there are. -/
theorem Bfs.few (h : Bfs t s R f i q) : R.length ≤ t.length := by
  refine pigeon11 t.length R.length (fun k => (R.getD k 0).toNat) (fun k hk => ?_) (fun j k hj hk e => ?_)
  · have := (h.here _ (getD_memR hk)).1
    omega
  · have h1 := (h.here _ (getD_memR hj)).1
    have h2 := (h.here _ (getD_memR hk)).1
    have e2 : R.getD j 0 = R.getD k 0 := by omega
    rw [List.getD_eq_getElem?_getD, List.getElem?_eq_getElem hj, List.getD_eq_getElem?_getD, List.getElem?_eq_getElem hk] at e2
    exact (List.getElem_inj h.nodup).1 e2
theorem Bfs.small (h : Bfs t s R f i q) : ∀ x ∈ R, ∃ d : Nat, f x = some (d : Int) ∧ valf f x = (d : Int) ∧ 0 ≤ x ∧ x < t.length := by
  intro x hx
  obtain ⟨h1, d, h2, h3⟩ := h.here x hx
  exact ⟨d, h2, by unfold valf; rw [h2]; rfl, h1⟩
/-- When all that were met are done, the distances are found. -/
theorem Bfs.end_ (ht : isModes t = true) (h : Bfs t s R f R.length q) : f = graphD t s := by
  have hw : ∀ n x, walk t n s x → ∃ e, f (x : Int) = some e ∧ e ≤ n := by
    intro n
    induction n with
    | zero =>
      intro x e
      have e : s = x := e
      subst e
      obtain ⟨-, d, h1, -⟩ := h.here _ h.first.1
      have h2 := h.first.2
      unfold valf at h2
      rw [h1] at h2
      exact ⟨d, h1, by simpa using Int.le_of_eq h2⟩
    | succ n ih =>
      intro x hx
      obtain ⟨k, h1, h2⟩ := (walk_snoc n s x).1 hx
      obtain ⟨e, h3, h4⟩ := ih k h1
      obtain ⟨j, hj, ej⟩ := List.getElem_of_mem (h.only _ (by rw [h3]; simp))
      have e2 : R.getD j 0 = (k : Int) := by rw [List.getD_eq_getElem?_getD, List.getElem?_eq_getElem hj]; exact ej
      obtain ⟨e', h5, h6⟩ := h.done j hj x (by unfold nextOf; rw [e2, Int.toNat_natCast]; exact h2)
      refine ⟨e', h5, ?_⟩
      rw [e2] at h6
      unfold valf at h6
      rw [h3] at h6
      simp only [Option.getD_some] at h6
      omega
  funext x
  unfold graphD
  by_cases hc : (0 ≤ x ∧ x < t.length) ∧ 0 ≤ dist t x.toNat s
  · rw [if_pos hc]
    have h1 := dist_walk ht (to := x.toNat) t.length s hc.2
    obtain ⟨e, h2, h3⟩ := hw _ _ h1
    rw [Int.toNat_of_nonneg hc.1.1] at h2
    obtain ⟨-, d, h4, h5⟩ := h.here x (h.only x (by rw [h2]; simp))
    rw [h4] at h2
    have h6 : (d : Int) = e := by simpa using h2
    have hd0 : distTo t x.toNat t.length s = dist t x.toNat s := rfl
    rw [hd0] at h3
    have hlt : dist t x.toNat s ≤ t.length := (dist_le (t := t) (to := x.toNat) t.length s).1
    have h7 := (walk_dist ht t.length d s (by omega) h5).2
    rw [hd0] at h7
    rw [h4]
    congr 1
    omega
  · rw [if_neg hc]
    rcases hx : f x with _ | e
    · rfl
    · obtain ⟨h1, d, h4, h5⟩ := h.here x (h.only x (by rw [hx]; simp))
      exact absurd ⟨h1, walk_any ht d s h5⟩ hc
end
theorem graphD_some {t : List Md} {s : Nat} {x d : Int} (h : graphD t s x = some d) : (0 ≤ x ∧ x < t.length) ∧ 0 ≤ d ∧ dist t x.toNat s = d := by
  unfold graphD at h
  split at h
  · rename_i hc
    have : dist t x.toNat s = d := by simpa using h
    exact ⟨hc.1, by omega, this⟩
  · cases h
theorem graphD_in {t : List Md} {s : Nat} {x : Int} (h : 0 ≤ x ∧ x < t.length) : graphD t s x = if 0 ≤ dist t x.toNat s then some (dist t x.toNat s) else none := by
  unfold graphD
  by_cases hc : 0 ≤ dist t x.toNat s
  · rw [if_pos ⟨h, hc⟩, if_pos hc]
  · rw [if_neg (fun e => hc e.2), if_neg hc]
end Go.Proofs.Ytfmedckompdjgaa
