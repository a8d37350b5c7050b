/-
  Chapter 6: l06Frame as a whole; FrameFromBody of the model.
  Boxes and slices that lie apart. No program is named here.
  Chapter 6: frames drawn: l06Draw.
-/
import Derived.Test.YtggnoeeaoligdaaSixF
import Derived.Test.YtggnoeeaoligdaaSixG
import Derived.Test.YtggnoeeaoligdaaFourD
import Derived.Test.YtggnoeeaoligdaaDrawA
namespace Go.Proofs.Ytggnoeeaoligdaa
section
open Go.RowKit

/-- What the model's reader hands back. -/
def GivesSpec (w : World) (xs : List Int) (x : Option Fr) (e : Ending) (w' : World) : Prop := match x with
  | none => GivesFB w Fr.zero (.bool false) e w'
  | some f => GivesFB w f (.bool (isFrame f && decide (frameBytes f = xs))) e w'
theorem head_ok {h : Int} (h0 : 0 ≤ h ∧ h ≤ 255) : kindOk (h / 64) = true := inRange_iff.2 ⟨by omega, by omega⟩
end

section
open Go.RowKit

/-- A slice that was made behind a box lies above it. -/
theorem above_box {E B : Nat} {w w' : World} {v : Value} {xs : List Int} (o : Own E w' w.heap.size v xs) (h : B < w.heap.size) : ∀ k, v.ownBlock = some k → B < k := fun k hk => Nat.lt_of_lt_of_le h (o.block k hk).1
theorem below_size' {E base : Nat} {w : World} {v : Value} {xs : List Int} (o : Own E w base v xs) : ∀ k, v.ownBlock = some k → k < w.heap.size := fun k hk => (o.block k hk).2
theorem ne_below {B : Nat} {v : Value} (h : ∀ k, v.ownBlock = some k → B < k) : some B ≠ v.ownBlock := fun e => Nat.lt_irrefl _ (h B e.symm)
theorem ne_above {B : Nat} {v : Value} (h : ∀ k, v.ownBlock = some k → k < B) : some B ≠ v.ownBlock := fun e => Nat.lt_irrefl _ (h B e.symm)
end

section
open Go.RowKit

section
variable {w wi wj : World} {p J : Nat} {a q t m r s k : Int} {v : Value}
end
/-- What a draw of a frame leaves. -/
def DrawnFrame (w : World) (p : Nat) (e : Ending) (w' : World) : Prop :=
  ∃ (a q t m r s k : Int) (ao : Option Addr) (cap : Nat) (d : List Int), e = .returned (.agg #[.int .i64 a, .int .i64 q, .int .i64 t, .int .i64 m, .int .i64 r, .int .i64 s, .int .i64 k, .slice ao d.length cap]) ∧ Own 2 w' w.heap.size (.slice ao d.length cap) d ∧ d.length ≤ 9000 ∧ Src 146 w' p ∧ w.grownBy w' (some p)

end
end Go.Proofs.Ytggnoeeaoligdaa
