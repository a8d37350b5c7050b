/-
  An entry of a slot table (three numbers, and a struct of four numbers and a bool), and a slice of such, among a law's arguments: opened. No program is named here.
-/
import Derived.Test.YtggnoeeaoligdaaSw
import Derived.Test.YtggnoeeaoligdaaFourA
import Derived.Test.YtggnoeeaoligdaaEigE
import Derived.Deep.Slices
import Derived.Lib.SmallJoins
import Derived.ChangeArms
namespace Go.Proofs.Ytggnoeeaoligdaa
open Go.Joins Go.ChangeShapes Go.WideShapes Go.RowKit Go.Deep

/-- Each number of an entry lies in its kind's range. -/
def slWf (y : Sl) : Prop := (Lit.int .i64 y.mode).wf = true ∧ (Lit.int .i64 y.round).wf = true ∧ (Lit.int .i64 y.slot).wf = true ∧ (Lit.int .i64 y.desc.node).wf = true ∧ (Lit.int .i64 y.desc.kind).wf = true ∧ (Lit.int .i64 y.desc.size).wf = true ∧ (Lit.int .i64 y.desc.dur).wf = true
/-- A slice of entries that came in: nil, or places that read as the entries t. -/
def SlRow (w : World) (ao : Option Addr) (len cap : Nat) (t : List Sl) : Prop :=
  len ≤ cap ∧ cap ≤ maxLen ∧ RdE w ao len t ∧ ∀ i, i < len → slWf (slOf t i)
theorem list_ofS {p : Nat → Sl → Prop} : ∀ n : Nat, (∀ i, i < n → ∃ x, p i x) → ∃ t : List Sl, t.length = n ∧ ∀ i, i < n → p i (slOf t i)
  | 0, _ => ⟨[], rfl, fun i h => absurd h (by omega)⟩
  | n + 1, h => by
    obtain ⟨t, hl, ht⟩ := list_ofS n (fun i hi => h i (by omega))
    obtain ⟨x, hx⟩ := h n (by omega)
    refine ⟨t ++ [x], by rw [List.length_append, hl]; rfl, fun i hi => ?_⟩
    by_cases e : i = n
    · subst e
      have : slOf (t ++ [x]) i = x := by simp [slOf, List.getD, ← hl]
      rw [this]; exact hx
    · have : slOf (t ++ [x]) i = slOf t i := by simp [slOf, List.getD, List.getElem?_append_left (show i < t.length by omega)]
      rw [this]; exact ht i (by omega)
theorem list_fourS {α : Type} {cs : List α} (h : cs.length = 4) : ∃ a b c d, cs = [a, b, c, d] := by
  match cs, h with
  | [a, b, c, d], _ => exact ⟨a, b, c, d, rfl⟩
theorem list_eightS {α : Type} {cs : List α} (h : cs.length = 8) : ∃ a b c d e f g i, cs = [a, b, c, d, e, f, g, i] := by
  match cs, h with
  | [a, b, c, d, e, f, g, i], _ => exact ⟨a, b, c, d, e, f, g, i, rfl⟩
section
variable {H : Type} {enc : TypeId × Value → H} {P : Program} {w : World} {base : Nat} {spare : Nat → Bool} {held : Bool}
theorem slot_cells {e F G S : TypeId} {f0 f1 f2 f3 g0 g1 g2 g3 g4 : Field} {n : Nat} {cs : List Value} {x : DataW H × List MemPlace} (he : P.underlying e = some (.struct #[f0, f1, f2, f3])) (hS : P.underlying S = some (.struct #[g0, g1, g2, g3, g4])) (hF : P.underlying F = some (.int .i64)) (hG : P.underlying G = some .bool) (hCF : P.cellsOf F = 1) (hCG : P.cellsOf G = 1) (hCS : P.cellsOf S = 5)
    (hfs : (f0.type = F ∧ f0.offset = 0) ∧ (f1.type = F ∧ f1.offset = 1) ∧ (f2.type = F ∧ f2.offset = 2) ∧ f3.type = S ∧ f3.offset = 3)
    (hgs : (g0.type = F ∧ g0.offset = 0) ∧ (g1.type = F ∧ g1.offset = 1) ∧ (g2.type = F ∧ g2.offset = 2) ∧ (g3.type = F ∧ g3.offset = 3) ∧ g4.type = G ∧ g4.offset = 4)
    (hl : cs.length = 8) (h : DataW.trod enc P w base spare held n e cs = some x) : ∃ y : Sl, cs = slCells y ∧ slWf y ∧ x.2 = [] := by
  obtain ⟨c0, c1, c2, c3, c4, c5, c6, c7, rfl⟩ := list_eightS hl
  obtain ⟨xs, n', -, hx, -, hlen, hg⟩ := DataW.trod_struct he h
  obtain ⟨y0, y1, y2, y3, rfl⟩ := list_fourS hlen
  obtain ⟨h0, h1, h2, h3t, h3o⟩ := hfs
  obtain ⟨k0, k1, k2, k3, k4⟩ := hgs
  obtain ⟨n0, e0, p0, w0⟩ := int_at (y := y0) hF hCF h0 (by simpa using hg 0 f0 rfl)
  obtain ⟨n1, e1, p1, w1⟩ := int_at (y := y1) hF hCF h1 (by simpa using hg 1 f1 rfl)
  obtain ⟨n2, e2, p2, w2⟩ := int_at (y := y2) hF hCF h2 (by simpa using hg 2 f2 rfl)
  have hs3 := hg 3 f3 rfl
  rw [h3t, h3o, hCS] at hs3
  obtain ⟨xs2, m, -, hx2, -, hlen2, hg2⟩ := DataW.trod_struct hS hs3
  obtain ⟨z0, z1, z2, z3, z4, rfl⟩ := list_five hlen2
  obtain ⟨n3, e3, p3, w3⟩ := int_at (y := z0) hF hCF k0 (by simpa using hg2 0 g0 rfl)
  obtain ⟨n4, e4, p4, w4⟩ := int_at (y := z1) hF hCF k1 (by simpa using hg2 1 g1 rfl)
  obtain ⟨n5, e5, p5, w5⟩ := int_at (y := z2) hF hCF k2 (by simpa using hg2 2 g2 rfl)
  obtain ⟨n6, e6, p6, w6⟩ := int_at (y := z3) hF hCF k3 (by simpa using hg2 3 g3 rfl)
  obtain ⟨n7, e7, p7⟩ := bool_at (y := z4) hG hCG k4 (by simpa using hg2 4 g4 rfl)
  simp only [List.drop_zero, List.drop_succ_cons, List.take_succ_cons, List.take_zero, List.cons.injEq, and_true] at e0 e1 e2 e3 e4 e5 e6 e7
  subst e0 e1 e2 e3 e4 e5 e6 e7
  have h3 := congrArg Prod.snd hx2
  have h4 := congrArg Prod.snd hx
  simp only at h3 h4
  exact ⟨⟨n0, n1, n2, ⟨n3, n4, n5, n6, n7⟩⟩, rfl, ⟨w0, w1, w2, w3, w4, w5, w6⟩, by simp_all⟩
/-- An entry by value. -/
theorem open_sl {r : Reach} {b0 : Nat} {e F G S : TypeId} {f0 f1 f2 f3 g0 g1 g2 g3 g4 : Field} {v : Value} {d : DataW H} {p : List MemPlace} (he : P.underlying e = some (.struct #[f0, f1, f2, f3])) (hS : P.underlying S = some (.struct #[g0, g1, g2, g3, g4])) (hF : P.underlying F = some (.int .i64)) (hG : P.underlying G = some .bool) (hC : P.cellsOf e = 8) (hCF : P.cellsOf F = 1) (hCG : P.cellsOf G = 1) (hCS : P.cellsOf S = 5)
    (hfs : (f0.type = F ∧ f0.offset = 0) ∧ (f1.type = F ∧ f1.offset = 1) ∧ (f2.type = F ∧ f2.offset = 2) ∧ f3.type = S ∧ f3.offset = 3)
    (hgs : (g0.type = F ∧ g0.offset = 0) ∧ (g1.type = F ∧ g1.offset = 1) ∧ (g2.type = F ∧ g2.offset = 2) ∧ (g3.type = F ∧ g3.offset = 3) ∧ g4.type = G ∧ g4.offset = 4)
    (hv : Value.okWide P w r b0 e v) (h : DataW.Trod enc P w base spare held e v d p) : ∃ y : Sl, v = slVal y ∧ p = [] ∧ slWf y := by
  obtain ⟨⟨cs⟩, rfl, hsz⟩ := okWide_struct he hv
  obtain ⟨fuel, hf⟩ := h
  obtain ⟨y, hy, hw, hp⟩ := slot_cells he hS hF hG hCF hCG hCS hfs hgs (cs := cs) (by simpa using hsz.trans hC) (by simpa [Value.cells] using hf)
  subst hy
  exact ⟨y, rfl, hp, hw⟩
theorem open_sls {T e F G S : TypeId} {f0 f1 f2 f3 g0 g1 g2 g3 g4 : Field} {fuel : Nat} {cs : List Value} {x : DataW H × List MemPlace} (hT : P.underlying T = some (.slice e)) (he : P.underlying e = some (.struct #[f0, f1, f2, f3])) (hS : P.underlying S = some (.struct #[g0, g1, g2, g3, g4])) (hF : P.underlying F = some (.int .i64)) (hG : P.underlying G = some .bool) (hC : P.cellsOf e = 8) (hCF : P.cellsOf F = 1) (hCG : P.cellsOf G = 1) (hCS : P.cellsOf S = 5)
    (hfs : (f0.type = F ∧ f0.offset = 0) ∧ (f1.type = F ∧ f1.offset = 1) ∧ (f2.type = F ∧ f2.offset = 2) ∧ f3.type = S ∧ f3.offset = 3)
    (hgs : (g0.type = F ∧ g0.offset = 0) ∧ (g1.type = F ∧ g1.offset = 1) ∧ (g2.type = F ∧ g2.offset = 2) ∧ (g3.type = F ∧ g3.offset = 3) ∧ g4.type = G ∧ g4.offset = 4)
    (h : DataW.trod enc P w base spare held fuel T cs = some x) :
    ∃ (ao : Option Addr) (len cap : Nat) (t : List Sl), cs = [.slice ao len cap] ∧ SlRow w ao len cap t := by
  rcases open_slice hT h with ⟨rfl, -⟩ | ⟨a, len, cap, m, n, D, Pl, rfl, -, hl, hm, hmm, -, hi⟩
  · exact ⟨none, 0, 0, [], rfl, Nat.le_refl _, by unfold maxLen; omega, RdE.nil_, fun i h => absurd h (by omega)⟩
  · have hml : len ≤ m := by rw [hmm]; split <;> omega
    have hone : ∀ i, i < len → ∃ y : Sl, (∀ j, j < 8 → w.cell? ((a.add (i * 8)).add j) = (slCells y)[j]?) ∧ slWf y := by
      intro i hil
      obtain ⟨cs', hc, ht⟩ := hi i (by omega)
      rw [hC] at hc
      obtain ⟨-, hcl, hat⟩ := World.cells?_some hc
      obtain ⟨y, rfl, hw, -⟩ := slot_cells he hS hF hG hCF hCG hCS hfs hgs hcl ht
      refine ⟨y, fun j hj => ?_, hw⟩
      have := hat j hj
      rw [this, List.getElem?_eq_getElem (by simp [slCells]; omega)]
    obtain ⟨t, htl, ht⟩ := list_ofS len hone
    refine ⟨some a, len, cap, t, rfl, hl, hm, ⟨htl, fun h0 => ?_⟩, fun i h => (ht i h).2⟩
    obtain ⟨b, off, spot⟩ := a
    have h00 : w.cell? (⟨b, off, spot⟩ : Addr) = (slCells (slOf t 0))[0]? := by simpa [Addr.add] using (ht 0 h0).1 0 (by omega)
    have hspot : spot = none := by
      have h3 : (slCells (slOf t 0))[0]? = some (.int .i64 (slOf t 0).mode) := rfl
      rw [h3] at h00
      exact World.cell?_spot h00
    subst hspot
    refine ⟨b, off, rfl, fun i hil => ?_⟩
    have z := (ht i hil).1
    simp only [Addr.add_lit] at z
    exact ⟨z 0 (by omega), z 1 (by omega), z 2 (by omega), z 3 (by omega), z 4 (by omega), z 5 (by omega), z 6 (by omega), z 7 (by omega)⟩
end
end Go.Proofs.Ytggnoeeaoligdaa
