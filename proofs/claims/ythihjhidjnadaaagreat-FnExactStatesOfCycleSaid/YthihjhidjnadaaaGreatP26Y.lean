/-
  Contracts of the program's, the model's and the laws' functions, and plain mathematics, on which a proof of this claim stands (part Y).
-/

import Derived.Test.YthihjhidjnadaaaGreatP26L
import Derived.Test.YthihjhidjnadaaaGreatP26U
namespace Go.Proofs.YthihjhidjnadaaaGreat
section
open Go.RowKit
structure ArgLu (w W : World) (u : Mv) (x : Ss) : Prop where
  arg : ArgSt w W u
  st : StateAt 76 W (w.heap.size + 1) x.t x.m x.r x.s x.k
section
variable {w W W' : World} {u : Mv} {x : Ss}
theorem ArgLu.call (h : ArgLu w W u x) (b : Below W.heap.size W W') : ArgLu w W' u x := ⟨h.arg.call b, StateAt.below h.st b (StateAt.lt h.st)⟩
theorem ArgLu.start : ArgLu w ((w.alloc (.cells #[.int .i64 u.id, .slice u.no u.n.length u.nc, .slice u.mo u.cs.length u.mc, .slice u.eo u.e.length u.ec] 75)).alloc (.cells #[.int .i64 x.t, .int .i64 x.m, .int .i64 x.r, .int .i64 x.s, .int .i64 x.k] 76)) u x := by
  refine ⟨(ArgSt.start w u).call ((Below.refl _ _).alloc (Nat.le_refl _) _), ?_⟩
  have e : w.heap.size + 1 = (w.alloc (.cells #[.int .i64 u.id, .slice u.no u.n.length u.nc, .slice u.mo u.cs.length u.mc, .slice u.eo u.e.length u.ec] 75)).heap.size := by simp
  rw [e]
  exact StateAt.new _
theorem ArgLu.all (h : ArgLu w W u x) : W.cell? ⟨w.heap.size, 0, none⟩ = some (.int .i64 u.id) ∧ W.cell? ⟨w.heap.size, 1, none⟩ = some (.slice u.no u.n.length u.nc) ∧ W.cell? ⟨w.heap.size, 2, none⟩ = some (.slice u.mo u.cs.length u.mc) ∧ W.cell? ⟨w.heap.size, 3, none⟩ = some (.slice u.eo u.e.length u.ec) ∧ W.cell? ⟨w.heap.size + 1, 0, none⟩ = some (.int .i64 x.t) ∧ W.cell? ⟨w.heap.size + 1, 1, none⟩ = some (.int .i64 x.m) ∧ W.cell? ⟨w.heap.size + 1, 2, none⟩ = some (.int .i64 x.r) ∧ W.cell? ⟨w.heap.size + 1, 3, none⟩ = some (.int .i64 x.s) ∧ W.cell? ⟨w.heap.size + 1, 4, none⟩ = some (.int .i64 x.k) :=
  ⟨h.arg.box.all.1, h.arg.box.all.2.1, h.arg.box.all.2.2.1, h.arg.box.all.2.2.2, StateAt.c0 h.st, StateAt.c1 h.st, StateAt.c2 h.st, StateAt.c3 h.st, StateAt.c4 h.st⟩
end
end
end Go.Proofs.YthihjhidjnadaaaGreat
