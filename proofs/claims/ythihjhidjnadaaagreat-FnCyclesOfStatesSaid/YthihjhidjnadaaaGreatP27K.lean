/-
  Contracts of the program's, the model's and the laws' functions, and plain mathematics, on which a proof of this claim stands (part K).
-/
import Derived.Orders
namespace Go.Proofs.YthihjhidjnadaaaGreat
end Go.Proofs.YthihjhidjnadaaaGreat
