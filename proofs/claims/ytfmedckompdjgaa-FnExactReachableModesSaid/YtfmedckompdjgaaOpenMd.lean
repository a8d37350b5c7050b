/-
  A slice of modes (two numbers and a slice of numbers each) among a law's arguments: opened to a list. No program is named here.
-/
import Derived.Test.YtfmedckompdjgaaMw
import Derived.Test.YtfmedckompdjgaaOpenNd
import Derived.ChangeSlices
namespace Go.Proofs.Ytfmedckompdjgaa
open Go.Joins Go.ChangeShapes Go.WideShapes Go.RowKit Go.Deep

/-- A slice of modes that came in: nil, or places that read as the entries cs. -/
def MdRow (w : World) (ao : Option Addr) (len cap : Nat) (cs : List Mc) : Prop := len ≤ cap ∧ cap ≤ maxLen ∧ RdM w ao len cs
theorem list_ofM {p : Nat → Mc → Prop} : ∀ n : Nat, (∀ i, i < n → ∃ x, p i x) → ∃ t : List Mc, t.length = n ∧ ∀ i, i < n → p i (mcOf t i)
  | 0, _ => ⟨[], rfl, fun i h => absurd h (by omega)⟩
  | n + 1, h => by
    obtain ⟨t, hl, ht⟩ := list_ofM n (fun i hi => h i (by omega))
    obtain ⟨x, hx⟩ := h n (by omega)
    refine ⟨t ++ [x], by rw [List.length_append, hl]; rfl, fun i hi => ?_⟩
    by_cases e : i = n
    · subst e
      have : mcOf (t ++ [x]) i = x := by simp [mcOf, List.getD, ← hl]
      rw [this]; exact hx
    · have : mcOf (t ++ [x]) i = mcOf t i := by simp [mcOf, List.getD, List.getElem?_append_left (show i < t.length by omega)]
      rw [this]; exact ht i (by omega)
theorem list_three {α : Type} {cs : List α} (h : cs.length = 3) : ∃ a b c, cs = [a, b, c] := by
  match cs, h with
  | [a, b, c], _ => exact ⟨a, b, c, rfl⟩
section
variable {H : Type} {enc : TypeId × Value → H} {P : Program} {w : World} {base : Nat} {spare : Nat → Bool} {held : Bool}
/-- A place of a struct whose field there is a slice of 64-bit numbers. -/
theorem slice_at {cs : List Value} {f : Field} {i F L n : Nat} {y : DataW H × List MemPlace} (hL : P.underlying L = some (.slice F)) (hF : P.underlying F = some (.int .i64)) (hCL : P.cellsOf L = 1) (hC : P.cellsOf F = 1) (hf : f.type = L ∧ f.offset = i)
    (h : DataW.trod enc P w base spare held n f.type ((cs.drop f.offset).take (P.cellsOf f.type)) = some y) : ∃ (ao : Option Addr) (cap : Nat) (xs : List Int), (cs.drop i).take 1 = [.slice ao xs.length cap] ∧ Rd w ao xs.length xs ∧ xs.length ≤ cap ∧ cap ≤ maxLen := by
  obtain ⟨rfl, rfl⟩ := hf
  rw [hCL] at h
  rcases open_ints hL hF hC h with ⟨h1, -⟩ | ⟨a, len, cap, zs, h1, -, hl, hm, hz, -, hc, -⟩
  · exact ⟨none, 0, [], h1, Rd.nil_, Nat.le_refl _, by unfold maxLen; omega⟩
  · have hlz : len ≤ zs.length := by rw [hz]; split <;> omega
    have htl : (zs.take len).length = len := by rw [List.length_take]; omega
    refine ⟨some a, cap, zs.take len, by rw [htl]; exact h1, ⟨rfl, fun h0 => ?_⟩, by omega, hm⟩
    obtain ⟨b, off, spot⟩ := a
    have hspot : spot = none := by simpa [Addr.add] using World.cell?_spot (hc 0 (by omega))
    subst hspot
    refine ⟨b, off, rfl, fun i hi => ?_⟩
    have := hc i (by omega)
    rw [Addr.add_lit] at this
    rw [this]
    simp [List.getD, show i < len from by omega]
theorem open_mds {T e F L : TypeId} {f0 f1 f2 : Field} {fuel : Nat} {cs : List Value} {x : DataW H × List MemPlace} (hT : P.underlying T = some (.slice e)) (he : P.underlying e = some (.struct #[f0, f1, f2]))
    (hF : P.underlying F = some (.int .i64)) (hL : P.underlying L = some (.slice F)) (hC : P.cellsOf e = 3) (hCF : P.cellsOf F = 1) (hCL : P.cellsOf L = 1)
    (hfs : (f0.type = F ∧ f0.offset = 0) ∧ (f1.type = F ∧ f1.offset = 1) ∧ f2.type = L ∧ f2.offset = 2)
    (h : DataW.trod enc P w base spare held fuel T cs = some x) :
    ∃ (ao : Option Addr) (len cap : Nat) (t : List Mc), cs = [.slice ao len cap] ∧ MdRow w ao len cap t := by
  rcases open_slice hT h with ⟨rfl, -⟩ | ⟨a, len, cap, m, n, D, Pl, rfl, -, hl, hm, hmm, -, hi⟩
  · exact ⟨none, 0, 0, [], rfl, Nat.le_refl _, by unfold maxLen; omega, RdM.nil_⟩
  · have hml : len ≤ m := by rw [hmm]; split <;> omega
    obtain ⟨h0, h1, h2⟩ := hfs
    have hone : ∀ i, i < len → ∃ y : Mc, (w.cell? (a.add (i * 3)) = some (.int .i64 y.md.rounds) ∧ w.cell? ((a.add (i * 3)).add 1) = some (.int .i64 y.md.slots) ∧ w.cell? ((a.add (i * 3)).add 2) = some (.slice y.ao y.md.next.length y.cap)) ∧ McRd w y := by
      intro i hil
      obtain ⟨cs', hc, ht⟩ := hi i (by omega)
      rw [hC] at hc
      obtain ⟨-, hcl, hat⟩ := World.cells?_some hc
      obtain ⟨c0, c1, c2, rfl⟩ := list_three hcl
      obtain ⟨ys, n', -, -, -, hyl, hg⟩ := DataW.trod_struct he ht
      obtain ⟨y0, y1, y2, rfl⟩ := list_three hyl
      obtain ⟨n0, e0, -, -⟩ := int_at_ (y := y0) hF hCF h0 (by simpa using hg 0 f0 rfl)
      obtain ⟨n1, e1, -, -⟩ := int_at_ (y := y1) hF hCF h1 (by simpa using hg 1 f1 rfl)
      obtain ⟨bo, bc, xs, e2, hr, hle, hmx⟩ := slice_at (y := y2) hL hF hCL hCF h2 (by simpa using hg 2 f2 rfl)
      simp only [List.drop_zero, List.drop_succ_cons, List.take_succ_cons, List.take_zero, List.cons.injEq, and_true] at e0 e1 e2
      subst e0 e1 e2
      have z0 := hat 0 (by omega)
      rw [show (a.add (i * 3)).add 0 = a.add (i * 3) from by unfold Addr.add; split <;> simp_all] at z0
      exact ⟨⟨⟨n0, n1, xs⟩, bo, bc⟩, ⟨z0, hat 1 (by omega), hat 2 (by omega)⟩, ⟨hr, hle, by unfold maxLen at hmx; dsimp only; omega⟩⟩
    obtain ⟨t, htl, ht⟩ := list_ofM len hone
    refine ⟨some a, len, cap, t, rfl, hl, hm, ⟨htl, fun h0 => ?_, fun c hc => ?_⟩⟩
    · obtain ⟨b, off, spot⟩ := a
      have hspot : spot = none := by simpa [Addr.add] using World.cell?_spot (ht 0 h0).1.1
      subst hspot
      refine ⟨b, off, rfl, fun i hil => ?_⟩
      obtain ⟨⟨z0, z1, z2⟩, -⟩ := ht i hil
      simp only [Addr.add_lit] at z0 z1 z2
      exact ⟨z0, z1, z2⟩
    · obtain ⟨i, hi2, rfl⟩ := List.getElem_of_mem hc
      have := (ht i (by omega)).2
      rwa [mcOf_get hi2] at this
end
end Go.Proofs.Ytfmedckompdjgaa
