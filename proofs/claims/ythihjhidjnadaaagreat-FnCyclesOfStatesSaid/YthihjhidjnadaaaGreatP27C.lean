/-
  Contracts of the program's, the model's and the laws' functions, and plain mathematics, on which a proof of this claim stands (part C).
-/

import Derived.Test.YthihjhidjnadaaaGreatP27L
import Derived.Test.YthihjhidjnadaaaGreatP27N
import Derived.Test.YthihjhidjnadaaaGreatP27A
import Derived.Test.YthihjhidjnadaaaGreatP27I
import Derived.Test.YthihjhidjnadaaaGreatP27T
namespace Go.Proofs.YthihjhidjnadaaaGreat
section
open Go.RowKit
section
variable {w W W' : World} {v : Mv} {J : Nat} {a1 : Option Addr} {c1 : Nat} {a2 : Option Addr} {c2 : Nat} {a3 : Option Addr} {c3 : Nat} {ds : List Mc} {k : Nat}
end
theorem or_ne {o : Option Nat} {J : Nat} (h : some J = o → False) : o = none ∨ o ≠ some J := .inr (fun e => h e.symm)
end

section
open Go.RowKit
theorem OwnMe.other {W W' : World} {base K : Nat} {y v : Mv} (h : OwnMe W base v) (hK : MvAt 28 W K y) (g : W.grownBy W' (some K)) : OwnMe W' base v :=
  ⟨h.n.only g (or_ne (fun e => ownsRow_ne h.n hK (by decide) e)), ⟨World.ownsRow.kept h.m.row g (or_ne (fun e => ownsRow_ne h.m.row hK (by decide) e)), fun c hc => (h.m.nx c hc).only g (or_ne (fun e => ownsRow_ne (h.m.nx c hc) hK (by decide) e)), h.m.apart⟩, h.e.only g (or_ne (fun e => ownsRow_ne h.e hK (by decide) e))⟩
theorem OwnMe.zero {W : World} {base : Nat} : OwnMe W base Mv.zero := ⟨OwnN.nil_, OwnM.nil_, OwnE.nil_⟩
theorem rows_or {w : World} {b1 b2 E E' s1 s2 n n' : Nat} {v v' : Value} {c c' : List Value} (h : w.ownsRow b1 E s1 v n c) (h' : w.ownsRow b2 E' s2 v' n' c') (hne : E ≠ E') : v.ownBlock = none ∨ v.ownBlock ≠ v'.ownBlock := by
  rcases hq : v.ownBlock with _ | q
  · exact .inl rfl
  · exact .inr (fun e => rows_ne h h' hne q hq e.symm)
end
end Go.Proofs.YthihjhidjnadaaaGreat
