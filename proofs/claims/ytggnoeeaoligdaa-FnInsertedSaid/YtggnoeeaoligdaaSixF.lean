/-
  Chapter 6: l06Frame.
  Chapter 6: l06Frame, its ways (A).
-/
import Derived.Test.YtggnoeeaoligdaaSixE
namespace Go.Proofs.Ytggnoeeaoligdaa
section
open Go.RowKit

theorem FrameAt.otherEight {T b c : Nat} {w : World} {a q t m r s k : Int} {v : Value} (h : FrameAt T w b a q t m r s k v) (hne : b ≠ c) (a' q' t' m' r' s' k' : Int) (v' : Value) : FrameAt T (setEight w c a' q' t' m' r' s' k' v') b a q t m r s k v :=
  (((((((h.other hne).other hne).other hne).other hne).other hne).other hne).other hne).other hne
end

section
open Go.RowKit

end
end Go.Proofs.Ytggnoeeaoligdaa
