/-
  Contracts of the program's, the model's and the laws' functions, and plain mathematics, on which a proof of this claim stands (part B).
-/

import Derived.Test.YtljdkckoelgkbaaGreatPzI
import Derived.Test.YtljdkckoelgkbaaGreatPzT
import Derived.Test.YtljdkckoelgkbaaGreatPzN
import Derived.Test.YtljdkckoelgkbaaGreatPzM
import Derived.Test.YtljdkckoelgkbaaGreatPzA
import Derived.Test.YtljdkckoelgkbaaGreatPzS
import Derived.Test.YtljdkckoelgkbaaGreatPzZ
namespace Go.Proofs.YtljdkckoelgkbaaGreat
section
open Go.RowKit
structure BytesOk (m : Me) : Prop where
  id : 0 ≤ m.id ∧ m.id ≤ 16777216
  nb : okB m.nodes
  mb : (modeBytes m.modes).length ≤ 1000000
  el : m.slots.length ≤ 100000
  ein : ∀ x ∈ m.slots, slIn x
theorem Well.bytes {m : Me} (W : Well m) : BytesOk m := by
  have := inR10.1 W.r1
  have := modeBytes_len W.r3
  have := (isSls_iff.1 W.r4).1
  exact ⟨by omega, okB_table W.r2, by omega, by omega, slIn_all W.r4⟩
section
variable {w W W' : World} {T : Nat} {v : Mv}
end
end
end Go.Proofs.YtljdkckoelgkbaaGreat
