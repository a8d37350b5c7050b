/-
  Chapter 6: frames drawn that need not be valid: l06DrawAny, DrawFrameBody.
  Chapter 6: DrawFrameBody, DrawFrameFromBody.
-/
import Derived.Test.YtggnoeeaoligdaaSixH
import Derived.Test.YtggnoeeaoligdaaFourD
import Derived.Test.YtggnoeeaoligdaaDrawC
namespace Go.Proofs.Ytggnoeeaoligdaa
section
open Go.RowKit

theorem grown_fiveAt (w : World) (b o : Nat) (t m r s k : Int) : w.grownBy (setFiveAt w b o t m r s k) (some b) :=
  grown_trans (grown_trans (grown_trans (grown_trans (grown_setCell w b o _) (grown_setCell _ b (o + 1) _)) (grown_setCell _ b (o + 2) _)) (grown_setCell _ b (o + 3) _)) (grown_setCell _ b (o + 4) _)
/-- A slice keeps while another block is written. -/
theorem Own.far {E base J : Nat} {w w' : World} {v : Value} {xs : List Int} (h : Own E w base v xs) (hj : ∀ k, v.ownBlock = some k → k < J) (g : w.grownBy w' (some J)) : Own E w' base v xs := by
  refine h.only g ?_
  cases hk : v.ownBlock with
  | none => exact .inl rfl
  | some i => exact .inr (fun e => by have := hj i hk; simp only [Option.some.injEq] at e; omega)
/-- What a draw of a frame for a law leaves. -/
def DrawnFr (w : World) (e : Ending) (w' : World) : Prop :=
  ∃ (a q t m r s k : Int) (ao : Option Addr) (cap : Nat) (d : List Int), e = .returned (.agg #[.int .i64 a, .int .i64 q, .int .i64 t, .int .i64 m, .int .i64 r, .int .i64 s, .int .i64 k, .slice ao d.length cap]) ∧ Own 2 w' w.heap.size (.slice ao d.length cap) d ∧ d.length ≤ 9000 ∧ Below w.heap.size w w'
end

section
open Go.RowKit

/-- What a draw of a list of bytes leaves. -/
def DrawnXs (w : World) (e : Ending) (w' : World) : Prop :=
  ∃ ao cap, ∃ xs : List Int, e = .returned (.slice ao xs.length cap) ∧ Rd w' ao xs.length xs ∧ xs.length ≤ 9000 ∧ xs.length ≤ cap ∧ cap ≤ 9223372036854775807 ∧ Below w.heap.size w w'
theorem own_block1 {E base n : Nat} {w : World} {ao : Option Addr} {cap : Nat} {xs : List Int} (h : Own E w base (.slice ao n cap) xs) (hl : 0 < n) : ∃ g, ao = some ⟨g, 0, none⟩ := by
  obtain ⟨ao', cap', e, _, _, _, hg⟩ := h.form
  simp only [Value.slice.injEq] at e
  obtain ⟨rfl, hn, rfl⟩ := e
  rcases hg with hg | ⟨g, rfl, _, _⟩
  · simp at hg
    omega
  · exact ⟨g, rfl⟩
theorem rd_first {w : World} {g n k : Nat} {xs : List Int} (h : Rd w (some ⟨g, 0, none⟩) n xs) (hk : k ≤ n) : Rd w (some ⟨g, 0, none⟩) k (xs.take k) := h.first hk
theorem body_one {f : Fr} {xs : List Int} (h : frameBody f = (xs, 0)) : 1 ≤ xs.length ∧ xs.length ≤ 42 := by
  obtain ⟨h1, h2⟩ := body_yes h
  have := frameBytes_len f
  have := frameBytes_small h1
  rw [h2] at *
  omega
theorem body_code {f : Fr} {xs : List Int} {c : Int} (h : frameBody f = (xs, c)) : c = 0 ∨ c = 1 := by
  unfold frameBody at h
  split at h <;> simp only [Prod.mk.injEq] at h <;> omega
end
end Go.Proofs.Ytggnoeeaoligdaa
