/-
  A struct of two numbers, a struct of five numbers and a slice of numbers among a law's arguments: opened to its parts. No program is named here.
-/
import Derived.Test.YtnblbemkpojjdaaFourA
import Derived.ChangeSlices
namespace Go.Proofs.Ytnblbemkpojjdaa
open Go.Joins Go.ChangeShapes Go.WideShapes Go.RowKit Go.ChangeAt

theorem list_four {α : Type} {cs : List α} (h : cs.length = 4) : ∃ a b c d, cs = [a, b, c, d] := by
  match cs, h with
  | [a, b, c, d], _ => exact ⟨a, b, c, d, rfl⟩
theorem list_eight {α : Type} {cs : List α} (h : cs.length = 8) : ∃ a b c d e f g i, cs = [a, b, c, d, e, f, g, i] := by
  match cs, h with
  | [a, b, c, d, e, f, g, i], _ => exact ⟨a, b, c, d, e, f, g, i, rfl⟩
/-- A slice of numbers that came in: nil, or a row of 'cap' cells that hold the numbers 'zs'. -/
def IntRow (w : World) (a : Option Addr) (len cap : Nat) (zs : List Int) : Prop :=
  (a = none ∧ len = 0 ∧ cap = 0 ∧ zs = []) ∨
  ∃ x, a = some x ∧ len ≤ cap ∧ cap ≤ maxLen ∧ zs.length = cap ∧ (∀ i, i < zs.length → w.cell? (x.add i) = some (.int .i64 (zs.getD i 0))) ∧ ∀ n ∈ zs, (Lit.int .i64 n).wf = true
theorem IntRow.small {w : World} {a : Option Addr} {len cap : Nat} {zs : List Int} (h : IntRow w a len cap zs) : len ≤ 9223372036854775807 := by
  rcases h with ⟨-, rfl, -, -⟩ | ⟨x, -, hl, hm, -, -, -⟩
  · omega
  · unfold maxLen at hm; omega
section
variable {H : Type} {enc : TypeId × Value → H} {P : Program} {w : World} {base : Nat} {held : Bool}
theorem open_eight {r : Reach} {b0 : Nat} {t F S L : TypeId} {f0 f1 f2 f3 g0 g1 g2 g3 g4 : Field} {v : Value} {d : DataW H} {p : List MemPlace} (hs : P.underlying t = some (.struct #[f0, f1, f2, f3])) (hS : P.underlying S = some (.struct #[g0, g1, g2, g3, g4])) (hL : P.underlying L = some (.slice F)) (hF : P.underlying F = some (.int .i64)) (hCF : P.cellsOf F = 1) (hCS : P.cellsOf S = 5) (hCL : P.cellsOf L = 1) (hC : P.cellsOf t = 8)
    (hfs : (f0.type = F ∧ f0.offset = 0) ∧ (f1.type = F ∧ f1.offset = 1) ∧ (f2.type = S ∧ f2.offset = 2) ∧ f3.type = L ∧ f3.offset = 7)
    (hgs : (g0.type = F ∧ g0.offset = 0) ∧ (g1.type = F ∧ g1.offset = 1) ∧ (g2.type = F ∧ g2.offset = 2) ∧ (g3.type = F ∧ g3.offset = 3) ∧ g4.type = F ∧ g4.offset = 4)
    (hv : Value.okWide P w r b0 t v) (h : DataW.Trod enc P w base (fun _ => true) held t v d p) :
    ∃ (n0 n1 n2 n3 n4 n5 n6 : Int) (ao : Option Addr) (len cap : Nat) (zs : List Int), v = .agg #[.int .i64 n0, .int .i64 n1, .int .i64 n2, .int .i64 n3, .int .i64 n4, .int .i64 n5, .int .i64 n6, .slice ao len cap] ∧ IntRow w ao len cap zs ∧
      (Lit.int .i64 n0).wf = true ∧ (Lit.int .i64 n1).wf = true ∧ (Lit.int .i64 n2).wf = true ∧ (Lit.int .i64 n3).wf = true ∧ (Lit.int .i64 n4).wf = true ∧ (Lit.int .i64 n5).wf = true ∧ (Lit.int .i64 n6).wf = true := by
  obtain ⟨⟨cs⟩, rfl, hsz⟩ := okWide_struct hs hv
  obtain ⟨c0, c1, c2, c3, c4, c5, c6, c7, rfl⟩ := list_eight (hsz.trans hC)
  obtain ⟨fuel, hf⟩ := h
  obtain ⟨xs, n, -, hx, -, hlen, hg⟩ := DataW.trod_struct hs hf
  obtain ⟨y0, y1, y2, y3, rfl⟩ := list_four hlen
  obtain ⟨h0, h1, ⟨h2t, h2o⟩, h3t, h3o⟩ := hfs
  obtain ⟨k0, k1, k2, k3, k4⟩ := hgs
  obtain ⟨n0, e0, p0, w0⟩ := int_at (y := y0) hF hCF h0 (by simpa [Value.cells] using hg 0 f0 rfl)
  obtain ⟨n1, e1, p1, w1⟩ := int_at (y := y1) hF hCF h1 (by simpa [Value.cells] using hg 1 f1 rfl)
  have hs2 := hg 2 f2 rfl
  rw [h2t, h2o, hCS] at hs2
  obtain ⟨xs2, m, -, hx2, -, hlen2, hg2⟩ := DataW.trod_struct hS hs2
  obtain ⟨z0, z1, z2, z3, z4, rfl⟩ := list_five hlen2
  obtain ⟨n2, e2, p2, w2⟩ := int_at (y := z0) hF hCF k0 (by simpa [Value.cells] using hg2 0 g0 rfl)
  obtain ⟨n3, e3, p3, w3⟩ := int_at (y := z1) hF hCF k1 (by simpa [Value.cells] using hg2 1 g1 rfl)
  obtain ⟨n4, e4, p4, w4⟩ := int_at (y := z2) hF hCF k2 (by simpa [Value.cells] using hg2 2 g2 rfl)
  obtain ⟨n5, e5, p5, w5⟩ := int_at (y := z3) hF hCF k3 (by simpa [Value.cells] using hg2 3 g3 rfl)
  obtain ⟨n6, e6, p6, w6⟩ := int_at (y := z4) hF hCF k4 (by simpa [Value.cells] using hg2 4 g4 rfl)
  have hs3 := hg 3 f3 rfl
  rw [h3t, h3o, hCL] at hs3
  simp only [List.drop_zero, List.drop_succ_cons, List.take_succ_cons, List.take_zero, List.cons.injEq, and_true] at e0 e1 e2 e3 e4 e5 e6
  subst e0 e1 e2 e3 e4 e5 e6
  rcases open_ints hL hF hCF hs3 with ⟨hcs, _⟩ | ⟨x, l, c, zs, hcs, _, hl, hm, hz, _, hcell, hwz⟩
  · simp [Value.cells] at hcs
    subst hcs
    exact ⟨n0, n1, n2, n3, n4, n5, n6, none, 0, 0, [], rfl, .inl ⟨rfl, rfl, rfl, rfl⟩, w0, w1, w2, w3, w4, w5, w6⟩
  · simp [Value.cells] at hcs
    subst hcs
    exact ⟨n0, n1, n2, n3, n4, n5, n6, some x, l, c, zs, rfl, .inr ⟨_, rfl, hl, hm, by simpa using hz, hcell, hwz⟩, w0, w1, w2, w3, w4, w5, w6⟩
end
end Go.Proofs.Ytnblbemkpojjdaa
