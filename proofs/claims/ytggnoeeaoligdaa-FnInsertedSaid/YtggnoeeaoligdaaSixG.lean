/-
  Chapter 6: l06Frame, its ways (B).
  Chapter 6: l06Frame, its ways (C).
-/
import Derived.Test.YtggnoeeaoligdaaSixF
namespace Go.Proofs.Ytggnoeeaoligdaa
section
open Go.RowKit

end

section
open Go.RowKit

end
end Go.Proofs.Ytggnoeeaoligdaa
