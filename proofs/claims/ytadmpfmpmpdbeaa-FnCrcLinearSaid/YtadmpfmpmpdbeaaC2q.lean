/-
  What the laws of chapter 2 walk with: slices and a struct kept beside each other; plain facts on check numbers.
-/
import Derived.Test.YtadmpfmpmpdbeaaC2p
import Derived.Test.YtadmpfmpmpdbeaaDice
import Derived.Test.YtadmpfmpmpdbeaaLike
namespace Go.Proofs.Ytadmpfmpmpdbeaa
open Go.RowKit

/-- Slices of the call's own beside block C, a struct of two numbers. -/
structure HeldC (E T : Nat) (w0 w : World) (C : Nat) (x y : Int) (L : List (Value × List Int)) : Prop where
  held : Held E w0 w L
  st : StructAt T w C x y
section
variable {E T : Nat} {w0 w w' : World} {C : Nat} {x y : Int} {L : List (Value × List Int)} {v : Value} {xs : List Int}
theorem HeldC.still (h : HeldC E T w0 w C x y L) (b : Below w.heap.size w w') : HeldC E T w0 w' C x y L := ⟨h.held.still b, h.st.below b h.st.lt⟩
theorem HeldC.make (h : HeldC E T w0 w C x y L) (o : Own E w' w.heap.size v xs) (b : Below w.heap.size w w') : HeldC E T w0 w' C x y ((v, xs) :: L) := ⟨h.held.make o b, h.st.below b h.st.lt⟩
theorem HeldC.rd {ao : Option Addr} {n cap : Nat} (h : HeldC E T w0 w C x y L) (i : Nat) (hi : L[i]? = some (.slice ao n cap, xs)) (hl : xs.length = n) : Rd w ao n xs := h.held.rd i hi hl
theorem HeldC.get (h : HeldC E T w0 w C x y L) (i : Nat) (hi : L[i]? = some (v, xs)) : Own E w w0.heap.size v xs := h.held.get i hi
theorem HeldC.below (h : HeldC E T w0 w C x y L) : Below w0.heap.size w0 w := h.held.below
theorem HeldC.start (o : Own E w' w.heap.size v xs) (b : Below w.heap.size w w') : HeldC E T w (w'.alloc (.cells #[.int .i64 x, .int .i64 y] T)) w'.heap.size x y [(v, xs)] :=
  ⟨(Held.start.make o b).still ((Below.refl _ _).alloc (Nat.le_refl _) _), StructAt.new w'⟩
/-- A call that made a block d, and one that wrote into this block alone. -/
theorem below_thrown {w w1 w2 : World} {d : Nat} (b : Below w.heap.size w w1) (g : w1.grownBy w2 (some d)) (hd : w.heap.size ≤ d) : Below w.heap.size w w2 := b.grown g b.size (fun k hk => by cases hk; exact hd)
end
theorem crcOfBits_at (wd p s : Int) (ao : Option Addr) (n cap : Nat) (xs : List Int) (w : World) (hr : Rd w ao n xs) (hn : n ≤ 1048576) :
    Calls Try.prog 26 #[.agg #[.int .i64 wd, .int .i64 p], .int .i64 s, .slice ao n cap] w fun e w' =>
      e = .returned (.tuple #[.int .i64 (crcOfBits wd p s xs).1, .int .i64 (crcOfBits wd p s xs).2]) ∧ Below w.heap.size w w' := by
  obtain rfl := hr.len
  exact crcOfBits_any wd p s ao cap xs w hr hn
theorem seedAfter_at (wd p s : Int) (ao : Option Addr) (n cap : Nat) (xs : List Int) (w : World) (hr : Rd w ao n xs) (hn : n ≤ 1048576) :
    Calls Try.prog 28 #[.agg #[.int .i64 wd, .int .i64 p], .int .i64 s, .slice ao n cap] w fun e w' =>
      e = .returned (.tuple #[.int .i64 (crcOfBits wd p s xs).1, .int .i64 (crcOfBits wd p s xs).2]) ∧ Below w.heap.size w w' := by
  obtain rfl := hr.len
  exact seedAfter_any wd p s ao cap xs w hr hn
/-- The check number of a valid list for a valid code. -/
theorem cob_put {W : Nat} {g : BitVec W} (r : BitVec W) (h1 : 3 ≤ W) (h2 : W ≤ 24) (hg : g.getLsbD 0 = true) {xs : List Int} (hb : isBits xs = true) : crcOfBits (W : Int) (g.toNat : Int) (r.toNat : Int) xs = (regOf g r xs, 0) := by
  rw [cob_0 (crcCode_put r h1 h2 hg) hb, crcRaw_eq]
theorem isBits_part {xs ys : List Int} (h : isBits xs = true) (hl : ys.length ≤ xs.length) (hm : ∀ y ∈ ys, y ∈ xs) : isBits ys = true := by
  have h := isBits_iff.1 h
  exact isBits_iff.2 ⟨by omega, fun y hy => h.2 y (hm y hy)⟩
/-- Feeding a prefix is the same as starting with the seed after it. -/
theorem prefix_round {wd p s r0 : Int} {xs : List Int} (h : crcOfBits wd p s xs = (r0, 0)) (k : Nat) : ∃ a, crcOfBits wd p s (xs.take k) = (a, 0) ∧ crcOfBits wd p a (xs.drop k) = (r0, 0) := by
  obtain ⟨W, g, r, rfl, h1, h2, rfl, h3, rfl, hb, hv⟩ := cob_get (wd := wd) (p := p) (s := s) (xs := xs) (by rw [h])
  rw [h] at hv
  have hv : r0 = regOf g r xs := hv
  refine ⟨regOf g r (xs.take k), cob_put r h1 h2 h3 (isBits_part hb (by rw [List.length_take]; omega) fun y hy => List.mem_of_mem_take hy), ?_⟩
  have e := cob_put (fbs g r (bl (xs.take k))) h1 h2 h3 (xs := xs.drop k) (isBits_part hb (by rw [List.length_drop]; omega) fun y hy => List.mem_of_mem_drop hy)
  unfold regOf at e hv ⊢
  rw [e, hv, ← fbs_append, ← bl_append, List.take_append_drop]
end Go.Proofs.Ytadmpfmpmpdbeaa
