/-
  Chapter 6: l06Frame, its ways (B).
  Chapter 6: l06Frame, its ways (C).
-/
import Derived.Test.YtjejflngaelgkaaSixF
namespace Go.Proofs.Ytjejflngaelgkaa
section
open Go.RowKit

end

section
open Go.RowKit

end
end Go.Proofs.Ytjejflngaelgkaa
