/-
  Contracts of the program's, the model's and the laws' functions, and plain mathematics, on which a proof of this claim stands (part Y).
-/

import Derived.Test.YthihjhidjnadaaaGreatP25V
import Derived.Test.YthihjhidjnadaaaGreatP25I
import Derived.Test.YthihjhidjnadaaaGreatP25T
import Derived.Test.YthihjhidjnadaaaGreatP25N
import Derived.Test.YthihjhidjnadaaaGreatP25X
import Derived.Test.YthihjhidjnadaaaGreatP25L
namespace Go.Proofs.YthihjhidjnadaaaGreat
section
open Go.RowKit
theorem sendTimes_len (m : Me) (k d : Int) : (sendTimes m k d).1.length ≤ 1048576 := by
  unfold sendTimes
  split
  · rename_i hc
    split
    · rw [sendTo_len _ _ _ (Nat.le_refl _)]
      have hm : isMedl m = true := by
        rcases h : isMedl m with _ | _
        · unfold codeLm at hc; rw [if_pos h] at hc; cases hc
        · rfl
      have h1 := (isSls_iff.1 (medl_iff.1 hm).r4).1
      have h2 := inMode_le m.slots k.toNat
      refine Nat.le_trans (List.length_filter_le _ _) ?_
      rw [List.length_take]
      omega
    · simp
  · simp
end
end Go.Proofs.YthihjhidjnadaaaGreat
