/-
  A slice of entries (a number, a string, a number, a bool) among a law's arguments: opened to a list. No program is named here.
-/
import Derived.Test.YtfmedckompdjgaaNw
import Derived.Deep.Slices
import Derived.Lib.SmallJoins
import Derived.ChangeArms
namespace Go.Proofs.Ytfmedckompdjgaa
open Go.Joins Go.ChangeShapes Go.WideShapes Go.RowKit Go.Deep

/-- A slice of entries that came in: nil, or places that read as the entries t. -/
def NdRow (w : World) (ao : Option Addr) (len cap : Nat) (t : List Nd) : Prop :=
  len ≤ cap ∧ cap ≤ maxLen ∧ RdN w ao len t ∧ ∀ i, i < len → (ndOf t i).name.size ≤ maxLen
theorem list_of {p : Nat → Nd → Prop} : ∀ n : Nat, (∀ i, i < n → ∃ x, p i x) → ∃ t : List Nd, t.length = n ∧ ∀ i, i < n → p i (ndOf t i)
  | 0, _ => ⟨[], rfl, fun i h => absurd h (by omega)⟩
  | n + 1, h => by
    obtain ⟨t, hl, ht⟩ := list_of n (fun i hi => h i (by omega))
    obtain ⟨x, hx⟩ := h n (by omega)
    refine ⟨t ++ [x], by rw [List.length_append, hl]; rfl, fun i hi => ?_⟩
    by_cases e : i = n
    · subst e
      have : ndOf (t ++ [x]) i = x := by simp [ndOf, List.getD, ← hl]
      rw [this]; exact hx
    · have : ndOf (t ++ [x]) i = ndOf t i := by simp [ndOf, List.getD, List.getElem?_append_left (show i < t.length by omega)]
      rw [this]; exact ht i (by omega)
theorem list_four {α : Type} {cs : List α} (h : cs.length = 4) : ∃ a b c d, cs = [a, b, c, d] := by
  match cs, h with
  | [a, b, c, d], _ => exact ⟨a, b, c, d, rfl⟩
section
variable {H : Type} {enc : TypeId × Value → H} {P : Program} {w : World} {base : Nat} {spare : Nat → Bool} {held : Bool}
/-- A place of a struct whose field there is a 64-bit number of one cell. -/
theorem int_at_ {cs : List Value} {f : Field} {i F n : Nat} {y : DataW H × List MemPlace} (hF : P.underlying F = some (.int .i64)) (hC : P.cellsOf F = 1) (hf : f.type = F ∧ f.offset = i)
    (h : DataW.trod enc P w base spare held n f.type ((cs.drop f.offset).take (P.cellsOf f.type)) = some y) : ∃ x : Int, (cs.drop i).take 1 = [.int .i64 x] ∧ y.2 = [] ∧ (Lit.int .i64 x).wf = true := by
  obtain ⟨rfl, rfl⟩ := hf
  rw [hC] at h
  obtain ⟨x, h1, h2, h3⟩ := DataW.trod_int hF h
  exact ⟨x, h1, by rw [h2], h3⟩
/-- A place of a struct whose field there is a bool of one cell. -/
theorem bool_at_ {cs : List Value} {f : Field} {i F n : Nat} {y : DataW H × List MemPlace} (hF : P.underlying F = some .bool) (hC : P.cellsOf F = 1) (hf : f.type = F ∧ f.offset = i)
    (h : DataW.trod enc P w base spare held n f.type ((cs.drop f.offset).take (P.cellsOf f.type)) = some y) : ∃ x : Bool, (cs.drop i).take 1 = [.bool x] ∧ y.2 = [] := by
  obtain ⟨rfl, rfl⟩ := hf
  rw [hC] at h
  obtain ⟨x, h1, h2⟩ := DataW.trod_bool hF h
  exact ⟨x, h1, by rw [h2]⟩
/-- A place of a struct whose field there is a string of one cell. -/
theorem string_at {cs : List Value} {f : Field} {i F n : Nat} {y : DataW H × List MemPlace} (hF : P.underlying F = some .string) (hC : P.cellsOf F = 1) (hf : f.type = F ∧ f.offset = i)
    (h : DataW.trod enc P w base spare held n f.type ((cs.drop f.offset).take (P.cellsOf f.type)) = some y) : ∃ x : ByteArray, (cs.drop i).take 1 = [.string x] ∧ x.size ≤ maxLen := by
  obtain ⟨rfl, rfl⟩ := hf
  rw [hC] at h
  obtain ⟨x, h1, -, h2⟩ := DataW.trod_string hF h
  exact ⟨x, h1, h2⟩
theorem open_nds {T e F S G : TypeId} {f0 f1 f2 f3 : Field} {fuel : Nat} {cs : List Value} {x : DataW H × List MemPlace} (hT : P.underlying T = some (.slice e)) (he : P.underlying e = some (.struct #[f0, f1, f2, f3]))
    (hF : P.underlying F = some (.int .i64)) (hS : P.underlying S = some .string) (hG : P.underlying G = some .bool) (hC : P.cellsOf e = 4) (hCF : P.cellsOf F = 1) (hCS : P.cellsOf S = 1) (hCG : P.cellsOf G = 1)
    (hfs : (f0.type = F ∧ f0.offset = 0) ∧ (f1.type = S ∧ f1.offset = 1) ∧ (f2.type = F ∧ f2.offset = 2) ∧ f3.type = G ∧ f3.offset = 3)
    (h : DataW.trod enc P w base spare held fuel T cs = some x) :
    ∃ (ao : Option Addr) (len cap : Nat) (t : List Nd), cs = [.slice ao len cap] ∧ NdRow w ao len cap t := by
  rcases open_slice hT h with ⟨rfl, -⟩ | ⟨a, len, cap, m, n, D, Pl, rfl, -, hl, hm, hmm, -, hi⟩
  · exact ⟨none, 0, 0, [], rfl, Nat.le_refl _, by unfold maxLen; omega, RdN.nil_, fun i h => absurd h (by omega)⟩
  · have hml : len ≤ m := by rw [hmm]; split <;> omega
    obtain ⟨h0, h1, h2, h3⟩ := hfs
    have hone : ∀ i, i < len → ∃ y : Nd, (w.cell? (a.add (i * 4)) = some (.int .i64 y.id) ∧ w.cell? ((a.add (i * 4)).add 1) = some (.string y.name) ∧ w.cell? ((a.add (i * 4)).add 2) = some (.int .i64 y.drift) ∧ w.cell? ((a.add (i * 4)).add 3) = some (.bool y.pas)) ∧ y.name.size ≤ maxLen := by
      intro i hil
      obtain ⟨cs', hc, ht⟩ := hi i (by omega)
      rw [hC] at hc
      obtain ⟨-, hcl, hat⟩ := World.cells?_some hc
      obtain ⟨c0, c1, c2, c3, rfl⟩ := list_four hcl
      obtain ⟨ys, n', -, -, -, hyl, hg⟩ := DataW.trod_struct he ht
      obtain ⟨y0, y1, y2, y3, rfl⟩ := list_four hyl
      obtain ⟨n0, e0, -, -⟩ := int_at_ (y := y0) hF hCF h0 (by simpa using hg 0 f0 rfl)
      obtain ⟨n1, e1, q1⟩ := string_at (y := y1) hS hCS h1 (by simpa using hg 1 f1 rfl)
      obtain ⟨n2, e2, -, -⟩ := int_at_ (y := y2) hF hCF h2 (by simpa using hg 2 f2 rfl)
      obtain ⟨n3, e3, -⟩ := bool_at_ (y := y3) hG hCG h3 (by simpa using hg 3 f3 rfl)
      simp only [List.drop_zero, List.drop_succ_cons, List.take_succ_cons, List.take_zero, List.cons.injEq, and_true] at e0 e1 e2 e3
      subst e0 e1 e2 e3
      have z0 := hat 0 (by omega)
      rw [show (a.add (i * 4)).add 0 = a.add (i * 4) from by unfold Addr.add; split <;> simp_all] at z0
      exact ⟨⟨n0, n1, n2, n3⟩, ⟨z0, hat 1 (by omega), hat 2 (by omega), hat 3 (by omega)⟩, q1⟩
    obtain ⟨t, htl, ht⟩ := list_of len hone
    refine ⟨some a, len, cap, t, rfl, hl, hm, ⟨htl, fun h0 => ?_⟩, fun i h => (ht i h).2⟩
    obtain ⟨b, off, spot⟩ := a
    have hspot : spot = none := by simpa [Addr.add] using World.cell?_spot (ht 0 h0).1.1
    subst hspot
    refine ⟨b, off, rfl, fun i hil => ?_⟩
    obtain ⟨⟨z0, z1, z2, z3⟩, -⟩ := ht i hil
    simp only [Addr.add_lit] at z0 z1 z2 z3
    exact ⟨z0, z1, z2, z3⟩
end
end Go.Proofs.Ytfmedckompdjgaa
