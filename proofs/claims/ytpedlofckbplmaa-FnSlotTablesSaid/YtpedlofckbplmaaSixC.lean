/-
  Chapter 6: IsFrame of the model.
  Chapter 6: what the laws do with frames: copied, compared, marked, measured.
  Chapter 6: frames compared, marked and measured by the laws.
  A struct of two numbers, a struct of five numbers and a slice of numbers among a law's arguments: opened to its parts. No program is named here.
-/
import Derived.Test.YtpedlofckbplmaaSixB
import Derived.Test.YtpedlofckbplmaaDrawA
import Derived.Test.YtpedlofckbplmaaFourA
import Derived.ChangeSlices
namespace Go.Proofs.Ytpedlofckbplmaa
section
open Go.RowKit

theorem if_bytes {a q t m r s k : Int} {xs : List Int} (h : isBytes xs = false) : isFrame ⟨a, q, t, m, r, s, k, xs⟩ = false := by simp [isFrame, h]
theorem if_all' {a q t m r s k : Int} {xs : List Int} (h1 : kindOk a = true) (h2 : inRange 0 7 q = true) (h3 : sizeOk a xs.length = true) (h4 : isBytes xs = true) : isFrame ⟨a, q, t, m, r, s, k, xs⟩ = stateOk a q t m r s k := by simp [isFrame, h1, h2, h3, h4]
theorem members_nat {k : Nat} (h : (k : Int) ≤ 4294967295) : membersOf (k : Int) = (nodesTo k 32, 0) := by
  unfold membersOf
  rw [if_pos (isVec_iff.2 ⟨by omega, h⟩), show ((k : Nat) : Int).toNat = k from by omega]
end

section
open Go.RowKit

/-- Five numbers stored from an offset on. -/
def setFiveAt (w : World) (b o : Nat) (t m r s k : Int) : World := ((((w.setCell ⟨b, o, none⟩ (.int .i64 t)).setCell ⟨b, o + 1, none⟩ (.int .i64 m)).setCell ⟨b, o + 2, none⟩ (.int .i64 r)).setCell ⟨b, o + 3, none⟩ (.int .i64 s)).setCell ⟨b, o + 4, none⟩ (.int .i64 k)
theorem below_fiveAt {B b o : Nat} {w : World} (hb : B ≤ b) (t m r s k : Int) : Below B w (setFiveAt w b o t m r s k) := ((((((Below.refl _ _).setCell hb _).setCell hb _).setCell hb _).setCell hb _).setCell hb _)
def setEight (w : World) (b : Nat) (a q t m r s k : Int) (v : Value) : World := (((((((w.setCell ⟨b, 0, none⟩ (.int .i64 a)).setCell ⟨b, 1, none⟩ (.int .i64 q)).setCell ⟨b, 2, none⟩ (.int .i64 t)).setCell ⟨b, 3, none⟩ (.int .i64 m)).setCell ⟨b, 4, none⟩ (.int .i64 r)).setCell ⟨b, 5, none⟩ (.int .i64 s)).setCell ⟨b, 6, none⟩ (.int .i64 k)).setCell ⟨b, 7, none⟩ v
theorem below_eight {B b : Nat} {w : World} (hb : B ≤ b) (a q t m r s k : Int) (v : Value) : Below B w (setEight w b a q t m r s k v) := (((((((((Below.refl _ _).setCell hb _).setCell hb _).setCell hb _).setCell hb _).setCell hb _).setCell hb _).setCell hb _).setCell hb _)
section
variable {T U b c : Nat} {w w' : World} {a q t m r s k : Int} {v : Value}
theorem FrameAt.fiveAt (h : FrameAt T w b a q t m r s k v) (t' m' r' s' k' : Int) : FrameAt T (setFiveAt w b 2 t' m' r' s' k') b a q t' m' r' s' k' v := ((((h.set2 t').set3 m').set4 r').set5 s').set6 k'
theorem FrameAt.eight (h : FrameAt T w b a q t m r s k v) (a' q' t' m' r' s' k' : Int) (v' : Value) : FrameAt T (setEight w b a' q' t' m' r' s' k' v') b a' q' t' m' r' s' k' v' := (((((((h.set0 a').set1 q').set2 t').set3 m').set4 r').set5 s').set6 k').set7 v'
theorem FrameAt.otherFive (h : FrameAt T w b a q t m r s k v) (hne : b ≠ c) (o : Nat) (t' m' r' s' k' : Int) : FrameAt T (setFiveAt w c o t' m' r' s' k') b a q t m r s k v := ((((h.other hne).other hne).other hne).other hne).other hne
end
theorem frame_three {T U V : Nat} (w : World) (a q t m r s k : Int) (v : Value) (a1 q1 t1 m1 r1 s1 k1 : Int) (v1 : Value) (a2 q2 t2 m2 r2 s2 k2 : Int) (v2 : Value) :
    FrameAt T (((w.alloc (.cells #[.int .i64 a, .int .i64 q, .int .i64 t, .int .i64 m, .int .i64 r, .int .i64 s, .int .i64 k, v] T)).alloc (.cells #[.int .i64 a1, .int .i64 q1, .int .i64 t1, .int .i64 m1, .int .i64 r1, .int .i64 s1, .int .i64 k1, v1] U)).alloc (.cells #[.int .i64 a2, .int .i64 q2, .int .i64 t2, .int .i64 m2, .int .i64 r2, .int .i64 s2, .int .i64 k2, v2] V)) w.heap.size a q t m r s k v ∧
    FrameAt U (((w.alloc (.cells #[.int .i64 a, .int .i64 q, .int .i64 t, .int .i64 m, .int .i64 r, .int .i64 s, .int .i64 k, v] T)).alloc (.cells #[.int .i64 a1, .int .i64 q1, .int .i64 t1, .int .i64 m1, .int .i64 r1, .int .i64 s1, .int .i64 k1, v1] U)).alloc (.cells #[.int .i64 a2, .int .i64 q2, .int .i64 t2, .int .i64 m2, .int .i64 r2, .int .i64 s2, .int .i64 k2, v2] V)) (w.heap.size + 1) a1 q1 t1 m1 r1 s1 k1 v1 ∧
    FrameAt V (((w.alloc (.cells #[.int .i64 a, .int .i64 q, .int .i64 t, .int .i64 m, .int .i64 r, .int .i64 s, .int .i64 k, v] T)).alloc (.cells #[.int .i64 a1, .int .i64 q1, .int .i64 t1, .int .i64 m1, .int .i64 r1, .int .i64 s1, .int .i64 k1, v1] U)).alloc (.cells #[.int .i64 a2, .int .i64 q2, .int .i64 t2, .int .i64 m2, .int .i64 r2, .int .i64 s2, .int .i64 k2, v2] V)) (w.heap.size + 1 + 1) a2 q2 t2 m2 r2 s2 k2 v2 := by
  have e1 : (w.alloc (.cells #[.int .i64 a, .int .i64 q, .int .i64 t, .int .i64 m, .int .i64 r, .int .i64 s, .int .i64 k, v] T)).heap.size = w.heap.size + 1 := by simp
  have e2 : ((w.alloc (.cells #[.int .i64 a, .int .i64 q, .int .i64 t, .int .i64 m, .int .i64 r, .int .i64 s, .int .i64 k, v] T)).alloc (.cells #[.int .i64 a1, .int .i64 q1, .int .i64 t1, .int .i64 m1, .int .i64 r1, .int .i64 s1, .int .i64 k1, v1] U)).heap.size = w.heap.size + 1 + 1 := by simp
  refine ⟨((FrameAt.new w).below (B := w.heap.size + 1) ((Below.refl _ _).alloc (by simp) _) (by omega)).below (B := w.heap.size + 1) ((Below.refl _ _).alloc (by simp) _) (by omega), ?_, ?_⟩
  · have := (FrameAt.new (T := U) (a := a1) (q := q1) (t := t1) (m := m1) (r := r1) (s := s1) (k := k1) (v := v1) (w.alloc (.cells #[.int .i64 a, .int .i64 q, .int .i64 t, .int .i64 m, .int .i64 r, .int .i64 s, .int .i64 k, v] T))).below (B := w.heap.size + 1 + 1) (w' := ((w.alloc (.cells #[.int .i64 a, .int .i64 q, .int .i64 t, .int .i64 m, .int .i64 r, .int .i64 s, .int .i64 k, v] T)).alloc (.cells #[.int .i64 a1, .int .i64 q1, .int .i64 t1, .int .i64 m1, .int .i64 r1, .int .i64 s1, .int .i64 k1, v1] U)).alloc (.cells #[.int .i64 a2, .int .i64 q2, .int .i64 t2, .int .i64 m2, .int .i64 r2, .int .i64 s2, .int .i64 k2, v2] V)) ((Below.refl _ _).alloc (by simp) _) (by simp)
    rwa [e1] at this
  · have := FrameAt.new (T := V) (a := a2) (q := q2) (t := t2) (m := m2) (r := r2) (s := s2) (k := k2) (v := v2) ((w.alloc (.cells #[.int .i64 a, .int .i64 q, .int .i64 t, .int .i64 m, .int .i64 r, .int .i64 s, .int .i64 k, v] T)).alloc (.cells #[.int .i64 a1, .int .i64 q1, .int .i64 t1, .int .i64 m1, .int .i64 r1, .int .i64 s1, .int .i64 k1, v1] U))
    rwa [e2] at this
theorem Own.away {E base b : Nat} {w : World} {v : Value} {xs : List Int} (h : Own E w base v xs) (hb : b < base) (i : Nat) (u : Value) : Own E (w.setCell ⟨b, i, none⟩ u) base v xs := by
  refine h.only (grown_setCell w b i u) ?_
  cases hk : v.ownBlock with
  | none => exact .inl rfl
  | some j => exact .inr (fun e => by have := (h.block j hk).1; simp only [Option.some.injEq] at e; omega)
theorem Own.awayFive {E base b : Nat} {w : World} {v : Value} {xs : List Int} (h : Own E w base v xs) (hb : b < base) (o : Nat) (t m r s k : Int) : Own E (setFiveAt w b o t m r s k) base v xs := ((((h.away hb _ _).away hb _ _).away hb _ _).away hb _ _).away hb _ _
theorem Own.awayEight {E base b : Nat} {w : World} {v : Value} {xs : List Int} (h : Own E w base v xs) (hb : b < base) (a q t m r s k : Int) (u : Value) : Own E (setEight w b a q t m r s k u) base v xs := (((((((h.away hb _ _).away hb _ _).away hb _ _).away hb _ _).away hb _ _).away hb _ _).away hb _ _).away hb _ _
/-- A frame handed back, its data a slice of the call's own; all old memory as it was. -/
def GivesFrame (w : World) (a q t m r s k : Int) (xs : List Int) (e : Ending) (w' : World) : Prop :=
  ∃ ao cap, e = .returned (.agg #[.int .i64 a, .int .i64 q, .int .i64 t, .int .i64 m, .int .i64 r, .int .i64 s, .int .i64 k, .slice ao xs.length cap]) ∧ Own 2 w' w.heap.size (.slice ao xs.length cap) xs ∧ Below w.heap.size w w'
end

section
open Go.RowKit

/-- The two frames that a call lays first. -/
theorem frame_new2 {T U : Nat} {w w' : World} {a q t m r s k a1 q1 t1 m1 r1 s1 k1 : Int} {v v1 : Value} (h : Below ((w.alloc (.cells #[.int .i64 a, .int .i64 q, .int .i64 t, .int .i64 m, .int .i64 r, .int .i64 s, .int .i64 k, v] T)).alloc (.cells #[.int .i64 a1, .int .i64 q1, .int .i64 t1, .int .i64 m1, .int .i64 r1, .int .i64 s1, .int .i64 k1, v1] U)).heap.size ((w.alloc (.cells #[.int .i64 a, .int .i64 q, .int .i64 t, .int .i64 m, .int .i64 r, .int .i64 s, .int .i64 k, v] T)).alloc (.cells #[.int .i64 a1, .int .i64 q1, .int .i64 t1, .int .i64 m1, .int .i64 r1, .int .i64 s1, .int .i64 k1, v1] U)) w') :
    FrameAt T w' w.heap.size a q t m r s k v ∧ FrameAt U w' (w.heap.size + 1) a1 q1 t1 m1 r1 s1 k1 v1 :=
  ⟨((FrameAt.new w).below (B := (w.alloc (.cells #[.int .i64 a, .int .i64 q, .int .i64 t, .int .i64 m, .int .i64 r, .int .i64 s, .int .i64 k, v] T)).heap.size) ((Below.refl _ _).alloc (Nat.le_refl _) _) (by simp)).below h (by simp; omega), by
    have e : (w.alloc (.cells #[.int .i64 a, .int .i64 q, .int .i64 t, .int .i64 m, .int .i64 r, .int .i64 s, .int .i64 k, v] T)).heap.size = w.heap.size + 1 := by simp
    have := (FrameAt.new (T := U) (a := a1) (q := q1) (t := t1) (m := m1) (r := r1) (s := s1) (k := k1) (v := v1) (w.alloc (.cells #[.int .i64 a, .int .i64 q, .int .i64 t, .int .i64 m, .int .i64 r, .int .i64 s, .int .i64 k, v] T))).below h (by simp)
    rwa [e] at this⟩
theorem frame_cells {T b : Nat} {w : World} {a q t m r s k : Int} {v : Value} (h : FrameAt T w b a q t m r s k v) : w.cell? ⟨b, 0, none⟩ = some (.int .i64 a) ∧ w.cell? ⟨b, 1, none⟩ = some (.int .i64 q) ∧ w.cell? ⟨b, 2, none⟩ = some (.int .i64 t) ∧ w.cell? ⟨b, 3, none⟩ = some (.int .i64 m) ∧ w.cell? ⟨b, 4, none⟩ = some (.int .i64 r) ∧ w.cell? ⟨b, 5, none⟩ = some (.int .i64 s) ∧ w.cell? ⟨b, 6, none⟩ = some (.int .i64 k) ∧ w.cell? ⟨b, 7, none⟩ = some v := ⟨h.c0, h.c1, h.c2, h.c3, h.c4, h.c5, h.c6, h.c7⟩
theorem frame_cells2 {T U b c : Nat} {w : World} {a q t m r s k a1 q1 t1 m1 r1 s1 k1 : Int} {v v1 : Value} (h : FrameAt T w b a q t m r s k v) (g : FrameAt U w c a1 q1 t1 m1 r1 s1 k1 v1) : w.cell? ⟨b, 0, none⟩ = some (.int .i64 a) ∧ w.cell? ⟨b, 1, none⟩ = some (.int .i64 q) ∧ w.cell? ⟨b, 2, none⟩ = some (.int .i64 t) ∧ w.cell? ⟨b, 3, none⟩ = some (.int .i64 m) ∧ w.cell? ⟨b, 4, none⟩ = some (.int .i64 r) ∧ w.cell? ⟨b, 5, none⟩ = some (.int .i64 s) ∧ w.cell? ⟨b, 6, none⟩ = some (.int .i64 k) ∧ w.cell? ⟨b, 7, none⟩ = some v ∧ w.cell? ⟨c, 0, none⟩ = some (.int .i64 a1) ∧ w.cell? ⟨c, 1, none⟩ = some (.int .i64 q1) ∧ w.cell? ⟨c, 2, none⟩ = some (.int .i64 t1) ∧ w.cell? ⟨c, 3, none⟩ = some (.int .i64 m1) ∧ w.cell? ⟨c, 4, none⟩ = some (.int .i64 r1) ∧ w.cell? ⟨c, 5, none⟩ = some (.int .i64 s1) ∧ w.cell? ⟨c, 6, none⟩ = some (.int .i64 k1) ∧ w.cell? ⟨c, 7, none⟩ = some v1 := ⟨h.c0, h.c1, h.c2, h.c3, h.c4, h.c5, h.c6, h.c7, frame_cells g⟩
end

section
open Go.Joins Go.ChangeShapes Go.WideShapes Go.RowKit Go.ChangeAt

theorem list_four {α : Type} {cs : List α} (h : cs.length = 4) : ∃ a b c d, cs = [a, b, c, d] := by
  match cs, h with
  | [a, b, c, d], _ => exact ⟨a, b, c, d, rfl⟩
theorem list_eight {α : Type} {cs : List α} (h : cs.length = 8) : ∃ a b c d e f g i, cs = [a, b, c, d, e, f, g, i] := by
  match cs, h with
  | [a, b, c, d, e, f, g, i], _ => exact ⟨a, b, c, d, e, f, g, i, rfl⟩
/-- A slice of numbers that came in: nil, or a row of 'cap' cells that hold the numbers 'zs'. -/
def IntRow (w : World) (a : Option Addr) (len cap : Nat) (zs : List Int) : Prop :=
  (a = none ∧ len = 0 ∧ cap = 0 ∧ zs = []) ∨
  ∃ x, a = some x ∧ len ≤ cap ∧ cap ≤ maxLen ∧ zs.length = cap ∧ (∀ i, i < zs.length → w.cell? (x.add i) = some (.int .i64 (zs.getD i 0))) ∧ ∀ n ∈ zs, (Lit.int .i64 n).wf = true
theorem IntRow.small {w : World} {a : Option Addr} {len cap : Nat} {zs : List Int} (h : IntRow w a len cap zs) : len ≤ 9223372036854775807 := by
  rcases h with ⟨-, rfl, -, -⟩ | ⟨x, -, hl, hm, -, -, -⟩
  · omega
  · unfold maxLen at hm; omega
section
variable {H : Type} {enc : TypeId × Value → H} {P : Program} {w : World} {base : Nat} {held : Bool}
theorem open_eight {r : Reach} {b0 : Nat} {t F S L : TypeId} {f0 f1 f2 f3 g0 g1 g2 g3 g4 : Field} {v : Value} {d : DataW H} {p : List MemPlace} (hs : P.underlying t = some (.struct #[f0, f1, f2, f3])) (hS : P.underlying S = some (.struct #[g0, g1, g2, g3, g4])) (hL : P.underlying L = some (.slice F)) (hF : P.underlying F = some (.int .i64)) (hCF : P.cellsOf F = 1) (hCS : P.cellsOf S = 5) (hCL : P.cellsOf L = 1) (hC : P.cellsOf t = 8)
    (hfs : (f0.type = F ∧ f0.offset = 0) ∧ (f1.type = F ∧ f1.offset = 1) ∧ (f2.type = S ∧ f2.offset = 2) ∧ f3.type = L ∧ f3.offset = 7)
    (hgs : (g0.type = F ∧ g0.offset = 0) ∧ (g1.type = F ∧ g1.offset = 1) ∧ (g2.type = F ∧ g2.offset = 2) ∧ (g3.type = F ∧ g3.offset = 3) ∧ g4.type = F ∧ g4.offset = 4)
    (hv : Value.okWide P w r b0 t v) (h : DataW.Trod enc P w base (fun _ => true) held t v d p) :
    ∃ (n0 n1 n2 n3 n4 n5 n6 : Int) (ao : Option Addr) (len cap : Nat) (zs : List Int), v = .agg #[.int .i64 n0, .int .i64 n1, .int .i64 n2, .int .i64 n3, .int .i64 n4, .int .i64 n5, .int .i64 n6, .slice ao len cap] ∧ IntRow w ao len cap zs ∧
      (Lit.int .i64 n0).wf = true ∧ (Lit.int .i64 n1).wf = true ∧ (Lit.int .i64 n2).wf = true ∧ (Lit.int .i64 n3).wf = true ∧ (Lit.int .i64 n4).wf = true ∧ (Lit.int .i64 n5).wf = true ∧ (Lit.int .i64 n6).wf = true := by
  obtain ⟨⟨cs⟩, rfl, hsz⟩ := okWide_struct hs hv
  obtain ⟨c0, c1, c2, c3, c4, c5, c6, c7, rfl⟩ := list_eight (hsz.trans hC)
  obtain ⟨fuel, hf⟩ := h
  obtain ⟨xs, n, -, hx, -, hlen, hg⟩ := DataW.trod_struct hs hf
  obtain ⟨y0, y1, y2, y3, rfl⟩ := list_four hlen
  obtain ⟨h0, h1, ⟨h2t, h2o⟩, h3t, h3o⟩ := hfs
  obtain ⟨k0, k1, k2, k3, k4⟩ := hgs
  obtain ⟨n0, e0, p0, w0⟩ := int_at (y := y0) hF hCF h0 (by simpa [Value.cells] using hg 0 f0 rfl)
  obtain ⟨n1, e1, p1, w1⟩ := int_at (y := y1) hF hCF h1 (by simpa [Value.cells] using hg 1 f1 rfl)
  have hs2 := hg 2 f2 rfl
  rw [h2t, h2o, hCS] at hs2
  obtain ⟨xs2, m, -, hx2, -, hlen2, hg2⟩ := DataW.trod_struct hS hs2
  obtain ⟨z0, z1, z2, z3, z4, rfl⟩ := list_five hlen2
  obtain ⟨n2, e2, p2, w2⟩ := int_at (y := z0) hF hCF k0 (by simpa [Value.cells] using hg2 0 g0 rfl)
  obtain ⟨n3, e3, p3, w3⟩ := int_at (y := z1) hF hCF k1 (by simpa [Value.cells] using hg2 1 g1 rfl)
  obtain ⟨n4, e4, p4, w4⟩ := int_at (y := z2) hF hCF k2 (by simpa [Value.cells] using hg2 2 g2 rfl)
  obtain ⟨n5, e5, p5, w5⟩ := int_at (y := z3) hF hCF k3 (by simpa [Value.cells] using hg2 3 g3 rfl)
  obtain ⟨n6, e6, p6, w6⟩ := int_at (y := z4) hF hCF k4 (by simpa [Value.cells] using hg2 4 g4 rfl)
  have hs3 := hg 3 f3 rfl
  rw [h3t, h3o, hCL] at hs3
  simp only [List.drop_zero, List.drop_succ_cons, List.take_succ_cons, List.take_zero, List.cons.injEq, and_true] at e0 e1 e2 e3 e4 e5 e6
  subst e0 e1 e2 e3 e4 e5 e6
  rcases open_ints hL hF hCF hs3 with ⟨hcs, _⟩ | ⟨x, l, c, zs, hcs, _, hl, hm, hz, _, hcell, hwz⟩
  · simp [Value.cells] at hcs
    subst hcs
    exact ⟨n0, n1, n2, n3, n4, n5, n6, none, 0, 0, [], rfl, .inl ⟨rfl, rfl, rfl, rfl⟩, w0, w1, w2, w3, w4, w5, w6⟩
  · simp [Value.cells] at hcs
    subst hcs
    exact ⟨n0, n1, n2, n3, n4, n5, n6, some x, l, c, zs, rfl, .inr ⟨_, rfl, hl, hm, by simpa using hz, hcell, hwz⟩, w0, w1, w2, w3, w4, w5, w6⟩
end
end
end Go.Proofs.Ytpedlofckbplmaa
