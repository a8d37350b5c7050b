/-
  Chapter 9: numbers of blocks and of bytes; check numbers of blocks; slices that are whole.
-/
import Derived.Test.YtljdkckoelgkbaaBk
import Derived.Test.YtljdkckoelgkbaaThree
import Derived.Test.YtljdkckoelgkbaaSame
import Derived.Test.YtljdkckoelgkbaaIn
namespace Go.Proofs.Ytljdkckoelgkbaa
open Go.RowKit

/-! ### numbers of blocks and of bytes -/
end Go.Proofs.Ytljdkckoelgkbaa
