/-
  Contracts of the program's, the model's and the laws' functions, and plain mathematics, on which a proof of this claim stands (part Y).
-/
import Derived.Deep.DeepCutAuto
import Derived.Test.YtnbbbndfpehinaaGreatP15L
import Derived.Test.YtnbbbndfpehinaaGreatP15U
import Derived.Test.YtnbbbndfpehinaaGreatP15X
namespace Go.Proofs.YtnbbbndfpehinaaGreat
section
open Go.RowKit
structure ArgLu (w W : World) (u : Mv) (x : Ss) : Prop where
  arg : ArgSt w W u
  st : StateAt 67 W (w.heap.size + 1) x.t x.m x.r x.s x.k
section
variable {w W W' : World} {u : Mv} {x : Ss}
theorem ArgLu.call (h : ArgLu w W u x) (b : Below W.heap.size W W') : ArgLu w W' u x := ⟨h.arg.call b, StateAt.below h.st b (StateAt.lt h.st)⟩
theorem ArgLu.start : ArgLu w ((w.alloc (.cells #[.int .i64 u.id, .slice u.no u.n.length u.nc, .slice u.mo u.cs.length u.mc, .slice u.eo u.e.length u.ec] 66)).alloc (.cells #[.int .i64 x.t, .int .i64 x.m, .int .i64 x.r, .int .i64 x.s, .int .i64 x.k] 67)) u x := by
  refine ⟨(ArgSt.start w u).call ((Below.refl _ _).alloc (Nat.le_refl _) _), ?_⟩
  have e : w.heap.size + 1 = (w.alloc (.cells #[.int .i64 u.id, .slice u.no u.n.length u.nc, .slice u.mo u.cs.length u.mc, .slice u.eo u.e.length u.ec] 66)).heap.size := by simp
  rw [e]
  exact StateAt.new _
theorem ArgLu.all (h : ArgLu w W u x) : W.cell? ⟨w.heap.size, 0, none⟩ = some (.int .i64 u.id) ∧ W.cell? ⟨w.heap.size, 1, none⟩ = some (.slice u.no u.n.length u.nc) ∧ W.cell? ⟨w.heap.size, 2, none⟩ = some (.slice u.mo u.cs.length u.mc) ∧ W.cell? ⟨w.heap.size, 3, none⟩ = some (.slice u.eo u.e.length u.ec) ∧ W.cell? ⟨w.heap.size + 1, 0, none⟩ = some (.int .i64 x.t) ∧ W.cell? ⟨w.heap.size + 1, 1, none⟩ = some (.int .i64 x.m) ∧ W.cell? ⟨w.heap.size + 1, 2, none⟩ = some (.int .i64 x.r) ∧ W.cell? ⟨w.heap.size + 1, 3, none⟩ = some (.int .i64 x.s) ∧ W.cell? ⟨w.heap.size + 1, 4, none⟩ = some (.int .i64 x.k) :=
  ⟨h.arg.box.all.1, h.arg.box.all.2.1, h.arg.box.all.2.2.1, h.arg.box.all.2.2.2, StateAt.c0 h.st, StateAt.c1 h.st, StateAt.c2 h.st, StateAt.c3 h.st, StateAt.c4 h.st⟩
end
end

section
open Go.RowKit
theorem ArgLu.other {w W W' : World} {u : Mv} {x : Ss} (h : ArgLu w W u x) {J : Nat} (hJ : w.heap.size + 1 < J) (g : W.grownBy W' (some J)) : ArgLu w W' u x :=
  ⟨⟨h.arg.box.grown g (fun e => by injection e; omega), h.arg.below.grown g h.arg.below.size (fun k hk => by cases hk; omega)⟩, StateAt.grown h.st g (fun e => by injection e; omega)⟩
theorem grown_descL (w : World) (b : Nat) (n a z u : Int) (c : Bool) : w.grownBy (setDesc w b n a z u c) (some b) :=
  grown_trans (grown_trans (grown_trans (grown_trans (grown_set' w b 0 _) (grown_set' _ b 1 _)) (grown_set' _ b 2 _)) (grown_set' _ b 3 _)) (grown_set' _ b 4 _)
theorem eqDesc_yes (y : Ds) (w : World) : Calls Tryz.prog 42 #[.agg #[.int .i64 y.node, .int .i64 y.kind, .int .i64 y.size, .int .i64 y.dur, .bool y.chg], .agg #[.int .i64 y.node, .int .i64 y.kind, .int .i64 y.size, .int .i64 y.dur, .bool y.chg]] w fun e w' => e = .returned (.bool true) ∧ Below w.heap.size w w' := eqDescriptor_any _ _ _ _ _ w
structure VarB (w6 W : World) (X : Nat) (y : Mv) : Prop where
  box : MvAt 28 W X y
  rd0 : RdMe w6 y
  be : Below w6.heap.size w6 W
  hX : w6.heap.size ≤ X
section
variable {w6 W W' : World} {X : Nat} {y : Mv}
theorem VarB.rd (h : VarB w6 W X y) : RdMe W y := h.rd0.below h.be
theorem VarB.call (h : VarB w6 W X y) (b : Below W.heap.size W W') : VarB w6 W' X y := ⟨h.box.below b h.box.lt, h.rd0, h.be.trans (b.mono h.be.size), h.hX⟩
theorem VarB.start (h : RdMe w6 y) : VarB w6 (w6.alloc (.cells #[.int .i64 y.id, .slice y.no y.n.length y.nc, .slice y.mo y.cs.length y.mc, .slice y.eo y.e.length y.ec] 28)) w6.heap.size y := ⟨MvAt.new w6, h, (Below.refl _ _).alloc (Nat.le_refl _) _, Nat.le_refl _⟩
theorem VarB.otherL (h : VarB w6 W X y) {Y : Nat} (hY : X < Y) (g : W.grownBy W' (some Y)) : VarB w6 W' X y :=
  ⟨h.box.grown g (fun e => by injection e; omega), h.rd0, h.be.grown g h.be.size (fun k hk => by cases hk; have := h.hX; omega), h.hX⟩
end
end
end Go.Proofs.YtnbbbndfpehinaaGreat
