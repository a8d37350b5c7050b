/-
  Chapter 16: the counts of a law.
-/
import Derived.Test.YtbbodgeoenjdkaaPlI
import Derived.Test.YtbbodgeoenjdkaaDrawA
namespace Go.Proofs.Ytbbodgeoenjdkaa
open Go.RowKit

/-- Counts of the numbers cs in a block that was made in the world V. -/
structure CSt (V w : World) (n : Nat) (cs : List Int) : Prop where
  own : Own 2 w V.heap.size (.slice (some ⟨V.heap.size, 0, none⟩) (n + 1) (n + 1)) (cntL n cs)
  below : Below V.heap.size V w
  cells : ∀ c ∈ cs, -1 ≤ c ∧ c < (n : Int)
  small : cs.length ≤ 200
theorem CSt.start {V w : World} {n : Nat} (o : Own 2 w V.heap.size (.slice (some ⟨V.heap.size, 0, none⟩) (n + 1) (n + 1)) (List.replicate (n + 1) 0)) (b : Below V.heap.size V w) : CSt V w n [] :=
  ⟨by rw [cntL_nil]; exact o, b, (fun _ h => by cases h), by simp⟩
theorem CSt.still {V w w' : World} {n : Nat} {cs : List Int} (h : CSt V w n cs) (hb : Below w.heap.size w w') : CSt V w' n cs :=
  ⟨h.own.below hb, h.below.trans (hb.mono h.below.size), h.cells, h.small⟩
theorem CSt.get {V w : World} {n : Nat} {cs : List Int} (h : CSt V w n cs) (u : Nat) : 0 ≤ (cntL n cs).getD u 0 ∧ (cntL n cs).getD u 0 ≤ 200 := by
  rw [cntL_get h.cells]
  have := List.count_le_length (a := (u : Int) - 1) (l := cs)
  have := h.small
  omega
theorem CSt.rd {V w : World} {n : Nat} {cs : List Int} (h : CSt V w n cs) : Rd w (some ⟨V.heap.size, 0, none⟩) (n + 1) (cntL n cs) := by
  obtain ⟨ao, cap, e, r, -⟩ := h.own.form
  injection e with e1 e2 e3
  subst e1
  rw [cntL_len] at r
  exact r
theorem CSt.cell {V w : World} {n : Nat} {cs : List Int} (h : CSt V w n cs) {u : Nat} (hu : u ≤ n) : w.cell? ⟨V.heap.size, u, none⟩ = some (.int .i64 ((cntL n cs).getD u 0)) := by
  obtain ⟨b, off, e, hat⟩ := h.rd.here (by omega)
  cases e
  have := hat u (by omega)
  rwa [Nat.zero_add] at this
theorem CSt.add {V w : World} {n u : Nat} {cs : List Int} (h : CSt V w n cs) {c : Int} (h1 : c + 1 = (u : Int)) (h2 : u ≤ n) (hs : cs.length + 1 ≤ 200) :
    w.frozen? ⟨V.heap.size, u, none⟩ = false ∧ CSt V (w.setCell ⟨V.heap.size, u, none⟩ (.int .i64 ((cntL n cs).getD u 0 + 1))) n (cs ++ [c]) := by
  obtain ⟨f, o⟩ := own_setAt h.own (cntL_len n cs) u ((cntL n cs).getD u 0 + 1)
  refine ⟨f, ?_, h.below.setCell (by exact Nat.le_refl _) _, fun d hd => ?_, by simp; omega⟩
  · rw [cntL_snoc, bump, show (c + 1).toNat = u from by omega]
    exact o
  · rcases List.mem_append.1 hd with hd | hd
    · exact h.cells d hd
    · rw [List.mem_singleton.1 hd]; omega
theorem CSt.list {V w : World} {n : Nat} {cs : List Int} (h : CSt V w n cs) : ∀ x ∈ cntL n cs, 0 ≤ x ∧ x ≤ 1000 := fun x hx => by
  obtain ⟨i, hi, rfl⟩ := List.getElem_of_mem hx
  have := h.get i
  rw [List.getD_eq_getElem?_getD, List.getElem?_eq_getElem hi] at this
  simp only [Option.getD_some] at this
  omega
/-- The cells that have been counted when r rows and k cells of the next are done. -/
def doneC (q : List (List Int)) (r k : Nat) : List Int := (q.take r).flatten ++ (q.getD r []).take k
theorem doneC_start (q : List (List Int)) : doneC q 0 0 = [] := by simp [doneC]
theorem doneC_cell {q : List (List Int)} {r k : Nat} (hk : k < (q.getD r []).length) : doneC q r k ++ [(q.getD r []).getD k 0] = doneC q r (k + 1) := by
  unfold doneC
  rw [List.append_assoc, List.take_add_one, List.getElem?_eq_getElem hk, List.getD_eq_getElem?_getD (l := q.getD r []), List.getElem?_eq_getElem hk]
  rfl
theorem doneC_row {q : List (List Int)} {r : Nat} (hr : r < q.length) : doneC q r (q.getD r []).length = doneC q (r + 1) 0 := by
  unfold doneC
  rw [List.take_length, List.take_zero, List.append_nil, List.take_add_one, List.getElem?_eq_getElem hr, List.flatten_append, List.getD_eq_getElem?_getD, List.getElem?_eq_getElem hr]
  simp
theorem doneC_all (q : List (List Int)) : doneC q q.length 0 = q.flatten := by simp [doneC]
theorem doneC_len {q : List (List Int)} (h : ∀ row ∈ q, row.length ≤ 16) : ∀ r k, (doneC q r k).length ≤ 16 * r + k := by
  have h1 : ∀ (l : List (List Int)) r, (∀ row ∈ l, row.length ≤ 16) → ((l.take r).flatten).length ≤ 16 * r := by
    intro l
    induction l with
    | nil => intro r _; simp
    | cons a l ih =>
      intro r hl
      cases r with
      | zero => simp
      | succ r =>
        rw [List.take_succ_cons, List.flatten_cons, List.length_append]
        have := ih r (fun x hx => hl x (List.mem_cons_of_mem _ hx))
        have := hl a (List.mem_cons_self ..)
        omega
  intro r k
  unfold doneC
  rw [List.length_append, List.length_take]
  have := h1 q r h
  omega
/-- What a table is in any case. -/
structure TabIs (t : List Dm) (q : List (List Int)) : Prop where
  len : q.length ≤ 8
  rows : ∀ row ∈ q, row.length ≤ 16 ∧ ∀ c ∈ row, -1 ≤ c ∧ c < (t.length : Int)
theorem tabIs {t : List Dm} {R S : Int} {bs : List Bk} {q : List (List Int)} {c : Int} (h : planTable t R S bs = (q, c)) : TabIs t q := by
  by_cases hc : c = 0
  · subst hc
    have u := table_use h
    have h1 := u.len
    have h2 := u.ok.R8
    have h3 := u.ok.S16
    exact ⟨by omega, fun row hr => by have := u.rows row hr; exact ⟨by omega, this.2⟩⟩
  · have : q = [] := by
      by_cases hp : planCode t R S = 0
      · cases hl : plTab tab0 R.toNat S.toNat 0 t bs with
        | none => rw [planTable_none hp hl] at h; cases h; rfl
        | some U => rw [planTable_some hp hl] at h; cases h; exact absurd rfl hc
      · rw [planTable_bad hp] at h; cases h; rfl
    subst this
    exact ⟨by simp, fun _ h => by cases h⟩
theorem getD_memR {q : List (List Int)} {r : Nat} (h : r < q.length) : q.getD r [] ∈ q := by
  rw [List.getD_eq_getElem?_getD, List.getElem?_eq_getElem h]
  exact List.getElem_mem h
/-- laws.likeInts of two that read alike, in any world that has drawn. -/
theorem like_quiet (ao bo : Option Addr) (n c d k : Nat) (xs : List Int) (w : World) (hx : Rd w ao n xs) (hy : Rd w bo n xs) (hn : n ≤ 9223372036854775807) :
    Calls Try.prog 27 #[.slice ao n c, .slice bo n d] (w.drewN k) fun e w'' => e = .returned (.bool true) ∧ ∃ m, w'' = w.drewN m := by
  have hb : Below w.heap.size w (w.drewN k) := below_drewN' (Below.refl _ _) k
  refine (like_any ao bo n n c d xs xs _ (hx.below hb) (hy.below hb) hn hn).mono ?_
  rintro e w' ⟨he, q, rfl⟩
  exact ⟨by rw [he]; simp, k + q, by rw [World.drewN_drewN]⟩
end Go.Proofs.Ytbbodgeoenjdkaa
