/-
  Chapter 8: two descriptors compared.
  A struct of four 64-bit numbers and a bool among a law's arguments: opened to its parts. No program is named here.
-/
import Derived.Test.YtbdfnkhmnglpbaaEigA
import Derived.Laws.StructEq
import Derived.Test.YtbdfnkhmnglpbaaFourA
namespace Go.Proofs.Ytbdfnkhmnglpbaa
section
open Go.RowKit

theorem desc_in_self (n a z u : Int) (c : Bool) (w : World) : (Op.equalIn 10000 49 (.agg #[.int .i64 n, .int .i64 a, .int .i64 z, .int .i64 u, .bool c]) (.agg #[.int .i64 n, .int .i64 a, .int .i64 z, .int .i64 u, .bool c])).run Try.prog w = .ok true w := by
  rw [run_equalIn_agg w 9999 _ _ _ (by kernel_rfl) (by kernel_rfl)]
  have hp : Try.prog.stoodInHeld 2 = false := by kernel_rfl
  have hq : Try.prog.stoodInHeld 4 = false := by kernel_rfl
  simp only [Program.fieldsOf, Try.underlying49, Op.eqFields]
  simp [go_sem]
theorem desc_neq_self (n a z u : Int) (c : Bool) (w : World) : (binOp .neq 49 (.agg #[.int .i64 n, .int .i64 a, .int .i64 z, .int .i64 u, .bool c]) (.agg #[.int .i64 n, .int .i64 a, .int .i64 z, .int .i64 u, .bool c])).run Try.prog w = .ok (.bool false) w := by
  rw [run_neq_struct, desc_in_self]; rfl
theorem desc_eql_self (n a z u : Int) (c : Bool) (w : World) : (binOp .eql 49 (.agg #[.int .i64 n, .int .i64 a, .int .i64 z, .int .i64 u, .bool c]) (.agg #[.int .i64 n, .int .i64 a, .int .i64 z, .int .i64 u, .bool c])).run Try.prog w = .ok (.bool true) w := by
  rw [run_eql_struct, desc_in_self]; rfl
end

section
open Go.Joins Go.ChangeShapes Go.WideShapes Go.RowKit

section
variable {H : Type} {enc : TypeId × Value → H} {P : Program} {w : World} {base : Nat} {spare : Nat → Bool} {held : Bool}
/-- A place of a struct whose field there is a bool of one cell. -/
theorem bool_at {cs : List Value} {f : Field} {i F n : Nat} {y : DataW H × List MemPlace} (hF : P.underlying F = some .bool) (hC : P.cellsOf F = 1) (hf : f.type = F ∧ f.offset = i)
    (h : DataW.trod enc P w base spare held n f.type ((cs.drop f.offset).take (P.cellsOf f.type)) = some y) : ∃ x : Bool, (cs.drop i).take 1 = [.bool x] ∧ y.2 = [] := by
  obtain ⟨rfl, rfl⟩ := hf
  rw [hC] at h
  obtain ⟨x, h1, h2⟩ := DataW.trod_bool hF h
  exact ⟨x, h1, by rw [h2]⟩
/-- The struct opened: four numbers, each in its kind's range, and a bool. -/
theorem open_fiveb {r : Reach} {b0 : Nat} {t F G : TypeId} {f0 f1 f2 f3 f4 : Field} {v : Value} {d : DataW H} {p : List MemPlace} (hs : P.underlying t = some (.struct #[f0, f1, f2, f3, f4])) (hF : P.underlying F = some (.int .i64)) (hG : P.underlying G = some .bool) (hC : P.cellsOf t = 5) (hCF : P.cellsOf F = 1) (hCG : P.cellsOf G = 1)
    (hfs : (f0.type = F ∧ f0.offset = 0) ∧ (f1.type = F ∧ f1.offset = 1) ∧ (f2.type = F ∧ f2.offset = 2) ∧ (f3.type = F ∧ f3.offset = 3) ∧ f4.type = G ∧ f4.offset = 4)
    (hv : Value.okWide P w r b0 t v) (h : DataW.Trod enc P w base spare held t v d p) :
    ∃ (n0 n1 n2 n3 : Int) (n4 : Bool), v = .agg #[.int .i64 n0, .int .i64 n1, .int .i64 n2, .int .i64 n3, .bool n4] ∧ p = [] ∧
      (Lit.int .i64 n0).wf = true ∧ (Lit.int .i64 n1).wf = true ∧ (Lit.int .i64 n2).wf = true ∧ (Lit.int .i64 n3).wf = true := by
  obtain ⟨⟨cs⟩, rfl, hsz⟩ := okWide_struct hs hv
  obtain ⟨c0, c1, c2, c3, c4, rfl⟩ := list_five (hsz.trans hC)
  obtain ⟨fuel, hf⟩ := h
  obtain ⟨xs, n, -, hx, -, hlen, hg⟩ := DataW.trod_struct hs hf
  obtain ⟨y0, y1, y2, y3, y4, rfl⟩ := list_five hlen
  obtain ⟨h0, h1, h2, h3, h4⟩ := hfs
  obtain ⟨n0, e0, p0, w0⟩ := int_at (y := y0) hF hCF h0 (by simpa [Value.cells] using hg 0 f0 rfl)
  obtain ⟨n1, e1, p1, w1⟩ := int_at (y := y1) hF hCF h1 (by simpa [Value.cells] using hg 1 f1 rfl)
  obtain ⟨n2, e2, p2, w2⟩ := int_at (y := y2) hF hCF h2 (by simpa [Value.cells] using hg 2 f2 rfl)
  obtain ⟨n3, e3, p3, w3⟩ := int_at (y := y3) hF hCF h3 (by simpa [Value.cells] using hg 3 f3 rfl)
  obtain ⟨n4, e4, p4⟩ := bool_at (y := y4) hG hCG h4 (by simpa [Value.cells] using hg 4 f4 rfl)
  simp only [List.drop_zero, List.drop_succ_cons, List.take_succ_cons, List.take_zero, List.cons.injEq, and_true] at e0 e1 e2 e3 e4
  simp only [Prod.mk.injEq] at hx
  subst e0 e1 e2 e3 e4
  exact ⟨n0, n1, n2, n3, n4, rfl, by rw [hx.2]; simp [p0, p1, p2, p3, p4], w0, w1, w2, w3⟩
end
end
end Go.Proofs.Ytbdfnkhmnglpbaa
