/-
  Contracts of the program's, the model's and the laws' functions, and plain mathematics, on which a proof of this claim stands (part B).
-/

import Derived.Test.YthihjhidjnadaaaGreatP21I
import Derived.Test.YthihjhidjnadaaaGreatP21T
import Derived.Test.YthihjhidjnadaaaGreatP21N
import Derived.Test.YthihjhidjnadaaaGreatP21M
import Derived.Test.YthihjhidjnadaaaGreatP21A
import Derived.Test.YthihjhidjnadaaaGreatP21S
import Derived.Test.YthihjhidjnadaaaGreatP21Z
namespace Go.Proofs.YthihjhidjnadaaaGreat
section
open Go.RowKit
structure BytesOk (m : Me) : Prop where
  id : 0 ≤ m.id ∧ m.id ≤ 16777216
  nb : okB m.nodes
  mb : (modeBytes m.modes).length ≤ 1000000
  el : m.slots.length ≤ 100000
  ein : ∀ x ∈ m.slots, slIn x
theorem Well.bytes {m : Me} (W : Well m) : BytesOk m := by
  have := inR10.1 W.r1
  have := modeBytes_len W.r3
  have := (isSls_iff.1 W.r4).1
  exact ⟨by omega, okB_table W.r2, by omega, by omega, slIn_all W.r4⟩
structure Bk (T : Nat) (w W : World) (v : Mv) : Prop where
  at_ : MvAt T W w.heap.size v
  below : Below w.heap.size w W
section
variable {w W W' : World} {T : Nat} {v : Mv}
theorem Bk.start (w : World) (v : Mv) : Bk T w (w.alloc (.cells #[.int .i64 v.id, .slice v.no v.n.length v.nc, .slice v.mo v.cs.length v.mc, .slice v.eo v.e.length v.ec] T)) v := ⟨MvAt.new w, (Below.refl _ _).alloc (Nat.le_refl _) _⟩
theorem Bk.call (h : Bk T w W v) (b : Below W.heap.size W W') : Bk T w W' v := ⟨h.at_.below b h.at_.lt, below_two h.below b⟩
theorem Bk.more (h : Bk T w W v) (b : Below (w.heap.size + 1) W W') : Bk T w W' v := ⟨h.at_.below b (Nat.lt_succ_self _), h.below.trans (b.mono (Nat.le_succ _))⟩
theorem Bk.size (h : Bk T w W v) : w.heap.size + 1 ≤ W.heap.size := h.at_.lt
end
end
end Go.Proofs.YthihjhidjnadaaaGreat
