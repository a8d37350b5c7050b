/-
  Chapter 6: what the laws do with frames: copied, compared, marked, measured.
-/
import Derived.Test.YtnblbemkpojjdaaG6
import Derived.Test.YtnblbemkpojjdaaDrawA
namespace Go.Proofs.Ytnblbemkpojjdaa
open Go.RowKit

/-- Five numbers stored from an offset on. -/
def setFiveAt (w : World) (b o : Nat) (t m r s k : Int) : World := ((((w.setCell ⟨b, o, none⟩ (.int .i64 t)).setCell ⟨b, o + 1, none⟩ (.int .i64 m)).setCell ⟨b, o + 2, none⟩ (.int .i64 r)).setCell ⟨b, o + 3, none⟩ (.int .i64 s)).setCell ⟨b, o + 4, none⟩ (.int .i64 k)
theorem below_fiveAt {B b o : Nat} {w : World} (hb : B ≤ b) (t m r s k : Int) : Below B w (setFiveAt w b o t m r s k) := ((((((Below.refl _ _).setCell hb _).setCell hb _).setCell hb _).setCell hb _).setCell hb _)
def setEight (w : World) (b : Nat) (a q t m r s k : Int) (v : Value) : World := (((((((w.setCell ⟨b, 0, none⟩ (.int .i64 a)).setCell ⟨b, 1, none⟩ (.int .i64 q)).setCell ⟨b, 2, none⟩ (.int .i64 t)).setCell ⟨b, 3, none⟩ (.int .i64 m)).setCell ⟨b, 4, none⟩ (.int .i64 r)).setCell ⟨b, 5, none⟩ (.int .i64 s)).setCell ⟨b, 6, none⟩ (.int .i64 k)).setCell ⟨b, 7, none⟩ v
theorem below_eight {B b : Nat} {w : World} (hb : B ≤ b) (a q t m r s k : Int) (v : Value) : Below B w (setEight w b a q t m r s k v) := (((((((((Below.refl _ _).setCell hb _).setCell hb _).setCell hb _).setCell hb _).setCell hb _).setCell hb _).setCell hb _).setCell hb _)
section
variable {T U b c : Nat} {w w' : World} {a q t m r s k : Int} {v : Value}
theorem FrameAt.fiveAt (h : FrameAt T w b a q t m r s k v) (t' m' r' s' k' : Int) : FrameAt T (setFiveAt w b 2 t' m' r' s' k') b a q t' m' r' s' k' v := ((((h.set2 t').set3 m').set4 r').set5 s').set6 k'
theorem FrameAt.eight (h : FrameAt T w b a q t m r s k v) (a' q' t' m' r' s' k' : Int) (v' : Value) : FrameAt T (setEight w b a' q' t' m' r' s' k' v') b a' q' t' m' r' s' k' v' := (((((((h.set0 a').set1 q').set2 t').set3 m').set4 r').set5 s').set6 k').set7 v'
theorem FrameAt.otherFive (h : FrameAt T w b a q t m r s k v) (hne : b ≠ c) (o : Nat) (t' m' r' s' k' : Int) : FrameAt T (setFiveAt w c o t' m' r' s' k') b a q t m r s k v := ((((h.other hne).other hne).other hne).other hne).other hne
end
theorem frame_three {T U V : Nat} (w : World) (a q t m r s k : Int) (v : Value) (a1 q1 t1 m1 r1 s1 k1 : Int) (v1 : Value) (a2 q2 t2 m2 r2 s2 k2 : Int) (v2 : Value) :
    FrameAt T (((w.alloc (.cells #[.int .i64 a, .int .i64 q, .int .i64 t, .int .i64 m, .int .i64 r, .int .i64 s, .int .i64 k, v] T)).alloc (.cells #[.int .i64 a1, .int .i64 q1, .int .i64 t1, .int .i64 m1, .int .i64 r1, .int .i64 s1, .int .i64 k1, v1] U)).alloc (.cells #[.int .i64 a2, .int .i64 q2, .int .i64 t2, .int .i64 m2, .int .i64 r2, .int .i64 s2, .int .i64 k2, v2] V)) w.heap.size a q t m r s k v ∧
    FrameAt U (((w.alloc (.cells #[.int .i64 a, .int .i64 q, .int .i64 t, .int .i64 m, .int .i64 r, .int .i64 s, .int .i64 k, v] T)).alloc (.cells #[.int .i64 a1, .int .i64 q1, .int .i64 t1, .int .i64 m1, .int .i64 r1, .int .i64 s1, .int .i64 k1, v1] U)).alloc (.cells #[.int .i64 a2, .int .i64 q2, .int .i64 t2, .int .i64 m2, .int .i64 r2, .int .i64 s2, .int .i64 k2, v2] V)) (w.heap.size + 1) a1 q1 t1 m1 r1 s1 k1 v1 ∧
    FrameAt V (((w.alloc (.cells #[.int .i64 a, .int .i64 q, .int .i64 t, .int .i64 m, .int .i64 r, .int .i64 s, .int .i64 k, v] T)).alloc (.cells #[.int .i64 a1, .int .i64 q1, .int .i64 t1, .int .i64 m1, .int .i64 r1, .int .i64 s1, .int .i64 k1, v1] U)).alloc (.cells #[.int .i64 a2, .int .i64 q2, .int .i64 t2, .int .i64 m2, .int .i64 r2, .int .i64 s2, .int .i64 k2, v2] V)) (w.heap.size + 1 + 1) a2 q2 t2 m2 r2 s2 k2 v2 := by
  have e1 : (w.alloc (.cells #[.int .i64 a, .int .i64 q, .int .i64 t, .int .i64 m, .int .i64 r, .int .i64 s, .int .i64 k, v] T)).heap.size = w.heap.size + 1 := by simp
  have e2 : ((w.alloc (.cells #[.int .i64 a, .int .i64 q, .int .i64 t, .int .i64 m, .int .i64 r, .int .i64 s, .int .i64 k, v] T)).alloc (.cells #[.int .i64 a1, .int .i64 q1, .int .i64 t1, .int .i64 m1, .int .i64 r1, .int .i64 s1, .int .i64 k1, v1] U)).heap.size = w.heap.size + 1 + 1 := by simp
  refine ⟨((FrameAt.new w).below (B := w.heap.size + 1) ((Below.refl _ _).alloc (by simp) _) (by omega)).below (B := w.heap.size + 1) ((Below.refl _ _).alloc (by simp) _) (by omega), ?_, ?_⟩
  · have := (FrameAt.new (T := U) (a := a1) (q := q1) (t := t1) (m := m1) (r := r1) (s := s1) (k := k1) (v := v1) (w.alloc (.cells #[.int .i64 a, .int .i64 q, .int .i64 t, .int .i64 m, .int .i64 r, .int .i64 s, .int .i64 k, v] T))).below (B := w.heap.size + 1 + 1) (w' := ((w.alloc (.cells #[.int .i64 a, .int .i64 q, .int .i64 t, .int .i64 m, .int .i64 r, .int .i64 s, .int .i64 k, v] T)).alloc (.cells #[.int .i64 a1, .int .i64 q1, .int .i64 t1, .int .i64 m1, .int .i64 r1, .int .i64 s1, .int .i64 k1, v1] U)).alloc (.cells #[.int .i64 a2, .int .i64 q2, .int .i64 t2, .int .i64 m2, .int .i64 r2, .int .i64 s2, .int .i64 k2, v2] V)) ((Below.refl _ _).alloc (by simp) _) (by simp)
    rwa [e1] at this
  · have := FrameAt.new (T := V) (a := a2) (q := q2) (t := t2) (m := m2) (r := r2) (s := s2) (k := k2) (v := v2) ((w.alloc (.cells #[.int .i64 a, .int .i64 q, .int .i64 t, .int .i64 m, .int .i64 r, .int .i64 s, .int .i64 k, v] T)).alloc (.cells #[.int .i64 a1, .int .i64 q1, .int .i64 t1, .int .i64 m1, .int .i64 r1, .int .i64 s1, .int .i64 k1, v1] U))
    rwa [e2] at this
theorem Own.away {E base b : Nat} {w : World} {v : Value} {xs : List Int} (h : Own E w base v xs) (hb : b < base) (i : Nat) (u : Value) : Own E (w.setCell ⟨b, i, none⟩ u) base v xs := by
  refine h.only (grown_setCell w b i u) ?_
  cases hk : v.ownBlock with
  | none => exact .inl rfl
  | some j => exact .inr (fun e => by have := (h.block j hk).1; simp only [Option.some.injEq] at e; omega)
theorem Own.awayFive {E base b : Nat} {w : World} {v : Value} {xs : List Int} (h : Own E w base v xs) (hb : b < base) (o : Nat) (t m r s k : Int) : Own E (setFiveAt w b o t m r s k) base v xs := ((((h.away hb _ _).away hb _ _).away hb _ _).away hb _ _).away hb _ _
theorem Own.awayEight {E base b : Nat} {w : World} {v : Value} {xs : List Int} (h : Own E w base v xs) (hb : b < base) (a q t m r s k : Int) (u : Value) : Own E (setEight w b a q t m r s k u) base v xs := (((((((h.away hb _ _).away hb _ _).away hb _ _).away hb _ _).away hb _ _).away hb _ _).away hb _ _).away hb _ _
/-- A frame handed back, its data a slice of the call's own; all old memory as it was. -/
def GivesFrame (w : World) (a q t m r s k : Int) (xs : List Int) (e : Ending) (w' : World) : Prop :=
  ∃ ao cap, e = .returned (.agg #[.int .i64 a, .int .i64 q, .int .i64 t, .int .i64 m, .int .i64 r, .int .i64 s, .int .i64 k, .slice ao xs.length cap]) ∧ Own 2 w' w.heap.size (.slice ao xs.length cap) xs ∧ Below w.heap.size w w'
theorem toFrame_any (a q t m r s k : Int) (ao : Option Addr) (cap : Nat) (xs : List Int) (w : World) (hr : Rd w ao xs.length xs) (hn : xs.length ≤ 1048576) : Calls Try.prog 26 #[.agg #[.int .i64 a, .int .i64 q, .int .i64 t, .int .i64 m, .int .i64 r, .int .i64 s, .int .i64 k, .slice ao xs.length cap]] w (GivesFrame w a q t m r s k xs) := by
  obtain ⟨A0, R0, S0⟩ := frame_three (T := 43) (U := 28) (V := 28) w a q t m r s k (.slice ao xs.length cap) 0 0 0 0 0 0 0 (.slice none 0 0) 0 0 0 0 0 0 0 (.slice none 0 0)
  have B0 : Below w.heap.size w (((w.alloc (.cells #[.int .i64 a, .int .i64 q, .int .i64 t, .int .i64 m, .int .i64 r, .int .i64 s, .int .i64 k, .slice ao xs.length cap] 43)).alloc (.cells #[.int .i64 0, .int .i64 0, .int .i64 0, .int .i64 0, .int .i64 0, .int .i64 0, .int .i64 0, .slice none 0 0] 28)).alloc (.cells #[.int .i64 0, .int .i64 0, .int .i64 0, .int .i64 0, .int .i64 0, .int .i64 0, .int .i64 0, .slice none 0 0] 28)) := below_two ((Below.refl _ _).alloc (Nat.le_refl _) _) (below_box2 (Below.refl _ _))
  go_enter Try.func26, Try.ntmps26
  go_upto_region 2 with fail
  generalize (((w.alloc (.cells #[.int .i64 a, .int .i64 q, .int .i64 t, .int .i64 m, .int .i64 r, .int .i64 s, .int .i64 k, .slice ao xs.length cap] 43)).alloc (.cells #[.int .i64 0, .int .i64 0, .int .i64 0, .int .i64 0, .int .i64 0, .int .i64 0, .int .i64 0, .slice none 0 0] 28)).alloc (.cells #[.int .i64 0, .int .i64 0, .int .i64 0, .int .i64 0, .int .i64 0, .int .i64 0, .int .i64 0, .slice none 0 0] 28)) = w0 at A0 R0 S0 B0 ⊢
  have a0 := A0.c0
  have c0 := S0.c0
  have f0 := S0.f 0
  go_upto_region 3 with fail
  clear a0 c0 f0
  have A1 := FrameAt.other (c := w.heap.size + 1 + 1) (i := 0) (u := .int .i64 a) A0 (by omega)
  have R1 := FrameAt.other (c := w.heap.size + 1 + 1) (i := 0) (u := .int .i64 a) R0 (by omega)
  have S1 := S0.set0 a
  have B1 := below_two' B0 ((Below.refl w.heap.size w0).setCell (p := ⟨w.heap.size + 1 + 1, 0, none⟩) (by simp; omega) (.int .i64 a))
  generalize World.setCell w0 ⟨w.heap.size + 1 + 1, 0, none⟩ (.int .i64 a) = w1 at A1 R1 S1 B1 ⊢
  clear A0 R0 S0 B0
  have a1 := A1.c1
  have c1 := S1.c1
  have f1 := S1.f 1
  go_upto_region 4 with fail
  clear a1 c1 f1
  have A2 := FrameAt.other (c := w.heap.size + 1 + 1) (i := 1) (u := .int .i64 q) A1 (by omega)
  have R2 := FrameAt.other (c := w.heap.size + 1 + 1) (i := 1) (u := .int .i64 q) R1 (by omega)
  have S2 := S1.set1 q
  have B2 := below_two' B1 ((Below.refl w.heap.size w1).setCell (p := ⟨w.heap.size + 1 + 1, 1, none⟩) (by simp; omega) (.int .i64 q))
  generalize World.setCell w1 ⟨w.heap.size + 1 + 1, 1, none⟩ (.int .i64 q) = w2 at A2 R2 S2 B2 ⊢
  clear A1 R1 S1 B1
  have a2 := A2.c2
  have a3 := A2.c3
  have a4 := A2.c4
  have a5 := A2.c5
  have a6 := A2.c6
  go_wp2_with fail
  clear a2 a3 a4 a5 a6
  refine (toState_any _ _ _ _ _ _).mono ?_
  rintro e w3 ⟨rfl, b3⟩
  have A3 := A2.below b3 A2.lt
  have R3 := R2.below b3 R2.lt
  have S3 := S2.below b3 S2.lt
  have B3 := below_two B2 b3
  clear A2 R2 S2 B2 b3
  have c2 := S3.c2
  have c3 := S3.c3
  have c4 := S3.c4
  have c5 := S3.c5
  have c6 := S3.c6
  have f2 := S3.f 2
  have f3 := S3.f 3
  have f4 := S3.f 4
  have f5 := S3.f 5
  have f6 := S3.f 6
  go_upto_region 5 with fail
  clear c2 c3 c4 c5 c6 f2 f3 f4 f5 f6
  change Code.wp _ _ _ _ (setFiveAt w3 (w.heap.size + 1 + 1) 2 t m r s k)
  have A4 := A3.otherFive (c := w.heap.size + 1 + 1) (by omega) 2 t m r s k
  have R4 := R3.otherFive (c := w.heap.size + 1 + 1) (by omega) 2 t m r s k
  have S4 := S3.fiveAt t m r s k
  have B4 := below_two' B3 (below_fiveAt (B := w.heap.size) (w := w3) (b := w.heap.size + 1 + 1) (o := 2) (by omega) t m r s k)
  generalize setFiveAt w3 (w.heap.size + 1 + 1) 2 t m r s k = w4 at A4 R4 S4 B4 ⊢
  clear A3 R3 S3 B3
  have a7 := A4.c7
  go_wp2_with fail
  clear a7
  refine (toInt_any _ _ _ _ _ (hr.below B4) hn).mono ?_
  rintro e w5 m5
  obtain ⟨p5, c5, rfl, o5, -, b5⟩ := m5.get
  clear m5
  have hlt : w.heap.size + 1 + 1 < w4.heap.size := S4.lt
  have A5 := A4.below b5 A4.lt
  have R5 := R4.below b5 R4.lt
  have S5 := S4.below b5 S4.lt
  have B5 := below_two B4 b5
  clear A4 R4 S4 B4 b5
  have c7 := S5.c7
  have f7 := S5.f 7
  go_upto_region 6 with fail
  clear c7 f7
  have O6 := (o5.away (b := w.heap.size + 1 + 1) hlt 7 (.slice p5 xs.length c5)).more (base' := w.heap.size + 1 + 1 + 1) hlt
  have R6 := FrameAt.other (c := w.heap.size + 1 + 1) (i := 7) (u := .slice p5 xs.length c5) R5 (by omega)
  have S6 := S5.set7 (.slice p5 xs.length c5)
  have B6 := below_two' B5 ((Below.refl w.heap.size w5).setCell (p := ⟨w.heap.size + 1 + 1, 7, none⟩) (by simp; omega) (.slice p5 xs.length c5))
  generalize World.setCell w5 ⟨w.heap.size + 1 + 1, 7, none⟩ (.slice p5 xs.length c5) = w6 at O6 R6 S6 B6 ⊢
  clear A5 R5 S5 B5 o5
  have c0 := S6.c0
  have c1 := S6.c1
  have c2 := S6.c2
  have c3 := S6.c3
  have c4 := S6.c4
  have c5' := S6.c5
  have c6 := S6.c6
  have c7 := S6.c7
  have d0 := R6.c0
  have d1 := R6.c1
  have d2 := R6.c2
  have d3 := R6.c3
  have d4 := R6.c4
  have d5 := R6.c5
  have d6 := R6.c6
  have d7 := R6.c7
  have f0 := R6.f 0
  have f1 := R6.f 1
  have f2 := R6.f 2
  have f3 := R6.f 3
  have f4 := R6.f 4
  have f5 := R6.f 5
  have f6 := R6.f 6
  have f7 := R6.f 7
  go_wp2_with fail
  clear c0 c1 c2 c3 c4 c5' c6 c7 d0 d1 d2 d3 d4 d5 d6 d7 f0 f1 f2 f3 f4 f5 f6 f7
  change bodyPost _ _ _ _ _ (setEight w6 (w.heap.size + 1) a q t m r s k (.slice p5 xs.length c5))
  have SF := R6.eight a q t m r s k (.slice p5 xs.length c5)
  have BF := below_two' B6 (below_eight (B := w.heap.size) (w := w6) (b := w.heap.size + 1) (by omega) a q t m r s k (.slice p5 xs.length c5))
  have OF := (O6.awayEight (b := w.heap.size + 1) (by omega) a q t m r s k (.slice p5 xs.length c5)).more (base' := w.heap.size) (by omega)
  generalize setEight w6 (w.heap.size + 1) a q t m r s k (.slice p5 xs.length c5) = wz at SF BF OF ⊢
  have e0 := SF.c0
  have e1 := SF.c1
  have e2 := SF.c2
  have e3 := SF.c3
  have e4 := SF.c4
  have e5 := SF.c5
  have e6 := SF.c6
  have e7 := SF.c7
  exact bodyPost_ret (v := .agg #[.int .i64 a, .int .i64 q, .int .i64 t, .int .i64 m, .int .i64 r, .int .i64 s, .int .i64 k, .slice p5 xs.length c5]) (by simp [results, Try.results26, go_sem, e0, e1, e2, e3, e4, e5, e6, e7]) rfl ⟨p5, c5, rfl, OF, BF⟩
end Go.Proofs.Ytnblbemkpojjdaa
