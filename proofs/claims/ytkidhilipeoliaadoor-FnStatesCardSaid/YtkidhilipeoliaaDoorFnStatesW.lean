/-
  The walk of laws.FnStates: at every input it returns true and writes nothing that was there.
-/
import Derived.Test.YtkidhilipeoliaaDoorRows
import Derived.Test.YtkidhilipeoliaaDoorC5c
import Derived.Test.YtkidhilipeoliaaDoorC5a
import Derived.Test.YtkidhilipeoliaaDoorC5b
import Derived.Test.YtkidhilipeoliaaDoorC4z
import Derived.Test.YtkidhilipeoliaaDoorC4f
import Derived.Test.YtkidhilipeoliaaDoorC4g
import Derived.Test.YtkidhilipeoliaaDoorC4n
import Derived.Test.YtkidhilipeoliaaDoorDrawA
import Derived.WalkKit
import Derived.ProofKit
import Derived.OpenShut
import Derived.ShutString
import Derived.ChangeOld
import Derived.Below
import Derived.Lib.SmallJoins
namespace Go.Proofs.YtkidhilipeoliaaDoor.fnStates
open Go.ChangeShapes Go.WideShapes Go.ChangeAt Go.RowKit Go.Joins
open Go.ChangeMaps (open_string shut_string)
set_option linter.unusedVariables false
/-- A slice of integers that came in: nil, or a row of 'cap' cells that hold the numbers 'zs', each fitting its kind. -/
def IsRow (k : IntKind) (w : World) (a : Option Addr) (len cap : Nat) (zs : List Int) : Prop :=
  (a = none ∧ len = 0 ∧ cap = 0 ∧ zs = []) ∨
  ∃ x, a = some x ∧ len ≤ cap ∧ cap ≤ maxLen ∧ zs.length = cap ∧ (∀ i, i < zs.length → w.cell? (x.add i) = some (.int k (zs.getD i 0))) ∧ ∀ n ∈ zs, (Lit.int k n).wf = true

set_option linter.unusedSimpArgs false in set_option maxHeartbeats 1000000 in
theorem walk (a0 : Option Addr) (len0 cap0 : Nat) (z0 : List Int) (w : World) (w0 : IsRow .u8 w a0 len0 cap0 z0) (hV : ReadHere w) :
    Calls Tryd.prog 3 #[.slice a0 len0 cap0] w fun e w' => e = .returned (.bool true) ∧ Below w.heap.size w w' := by
  have hr := rdB_of_row w0
  clear w0
  generalize List.take len0 z0 = cs at hr
  have HR := Lib.hid hr; clear hr
  have hws : 3 < w.heap.size := hV.1.2
  have HV := Lib.hid hV; clear hV
  by_cases hbig : len0 ≤ 4096
  rotate_left
  · go_enter Tryd.func3, Tryd.ntmps3
    go_wp2_with fail
    refine (big_yes _ _ _ _ hbig).mono ?_
    rintro e w' ⟨rfl, rfl⟩
    go_wp2
    go_ret
    exact ⟨rfl, Below.refl _ _⟩
  go_enter Tryd.func3, Tryd.ntmps3
  go_wp2_with fail
  refine (big_no _ _ _ _ hbig).mono ?_
  rintro e w' ⟨rfl, rfl⟩
  go_wp2_with fail
  refine (drawStateToBits_any _ _ _ cs _ HR.out (by omega)).mono ?_
  rintro e w1 ⟨t, m, r, s, k, rfl, b1⟩
  have B := Lib.hid b1
  replace HR := Lib.hid (rdB_grow HR.out b1)
  clear b1
  obtain ⟨bl, be, hF⟩ : ∃ bl be, stateToBits t m r s k = (bl, be) := ⟨_, _, rfl⟩
  have HF := Lib.hid hF; clear hF
  go_wp2_with fail
  have hal : Below w1.heap.size w1 (w1.alloc (.cells #[.int .i64 t, .int .i64 m, .int .i64 r, .int .i64 s, .int .i64 k] 25)) := (Below.refl _ _).alloc (Nat.le_refl _) _
  have S := Lib.hid (StateAt.new (T := 25) (t := t) (m := m) (r := r) (s := s) (k := k) w1)
  replace HR := Lib.hid (rdB_grow HR.out hal)
  replace B := Lib.hid (below_two B.out hal)
  clear hal
  obtain ⟨A, hA⟩ : ∃ b, b = w1.heap.size := ⟨_, rfl⟩
  rw [← hA] at S ⊢
  clear hA
  generalize w1.alloc (.cells #[.int .i64 t, .int .i64 m, .int .i64 r, .int .i64 s, .int .i64 k] 25) = w2 at S HR B ⊢
  have S0 := S.out.c0
  have S1 := S.out.c1
  have S2 := S.out.c2
  have S3 := S.out.c3
  have S4 := S.out.c4
  have lS := S.out.lt
  go_wp2_with fail
  clear S0 S1 S2 S3 S4 lS
  refine (stateToBits_any _ _ _ _ _ _).mono ?_
  rintro e w3 m3
  rw [HF.out] at m3
  simp only at m3
  obtain ⟨ao1, c1, rfl, o1, q1, b⟩ := m3.get
  have hc1 := Own.cap o1
  clear m3 o1
  replace HR := Lib.hid (rdB_grow HR.out b)
  replace S := Lib.hid (S.out.below b S.out.lt)
  replace B := Lib.hid (below_two B.out b)
  clear b
  have R1 := Lib.hid q1; clear q1
  have HC1 := Lib.hid hc1; clear hc1
  have S0 := S.out.c0
  have S1 := S.out.c1
  have S2 := S.out.c2
  have S3 := S.out.c3
  have S4 := S.out.c4
  have lS := S.out.lt
  go_wp2_with fail
  clear S0 S1 S2 S3 S4 lS
  refine (sStateToBits_any _ _ _ _ _ _).mono ?_
  rintro e w4 m4
  rw [HF.out] at m4
  simp only at m4
  obtain ⟨ao2, c2, rfl, o2, q2, b⟩ := m4.get
  clear m4 o2
  replace HR := Lib.hid (rdB_grow HR.out b)
  replace S := Lib.hid (S.out.below b S.out.lt)
  replace R1 := Lib.hid (R1.out.below b)
  replace B := Lib.hid (below_two B.out b)
  clear b
  have R2 := Lib.hid q2; clear q2
  go_wp2_with fail
  refine (drawStateFromBits_any _ _ _ cs _ HR.out (by omega)).mono ?_
  rintro e w5 ⟨ao3, c3, xs, rfl, q3, hx1, hx2, hx3, b⟩
  replace HR := Lib.hid (rdB_grow HR.out b)
  replace S := Lib.hid (S.out.below b S.out.lt)
  replace R1 := Lib.hid (R1.out.below b)
  replace R2 := Lib.hid (R2.out.below b)
  replace B := Lib.hid (below_two B.out b)
  clear b
  have R3 := Lib.hid q3; clear q3
  obtain ⟨q0, q1, q2, q3, q4, e1, hQ⟩ : ∃ q0 q1 q2 q3 q4 e1, stateFrom xs = (q0, q1, q2, q3, q4, e1) := ⟨_, _, _, _, _, _, rfl⟩
  have HQ := Lib.hid hQ; clear hQ
  go_wp2_with fail
  refine (stateFromBits_any _ _ _ _ R3.out (by omega) hx2 hx3).mono ?_
  rintro e w6 ⟨rfl, b⟩
  rw [HQ.out]
  simp only
  replace HR := Lib.hid (rdB_grow HR.out b)
  replace S := Lib.hid (S.out.below b S.out.lt)
  replace R1 := Lib.hid (R1.out.below b)
  replace R2 := Lib.hid (R2.out.below b)
  replace R3 := Lib.hid (R3.out.below b)
  replace B := Lib.hid (below_two B.out b)
  clear b
  have HX2 := Lib.hid hx2; have HX3 := Lib.hid hx3; clear hx2 hx3
  go_wp2_with fail
  have hal : Below w6.heap.size w6 (w6.alloc (.cells #[.int .i64 q0, .int .i64 q1, .int .i64 q2, .int .i64 q3, .int .i64 q4] 25)) := (Below.refl _ _).alloc (Nat.le_refl _) _
  have X := Lib.hid (StateAt.new (T := 25) (t := q0) (m := q1) (r := q2) (s := q3) (k := q4) w6)
  replace HR := Lib.hid (rdB_grow HR.out hal)
  replace S := Lib.hid (S.out.below hal S.out.lt)
  replace R1 := Lib.hid (R1.out.below hal)
  replace R2 := Lib.hid (R2.out.below hal)
  replace R3 := Lib.hid (R3.out.below hal)
  replace B := Lib.hid (below_two B.out hal)
  clear hal
  obtain ⟨D, hD⟩ : ∃ b, b = w6.heap.size := ⟨_, rfl⟩
  rw [← hD] at X ⊢
  clear hD
  generalize w6.alloc (.cells #[.int .i64 q0, .int .i64 q1, .int .i64 q2, .int .i64 q3, .int .i64 q4] 25) = w7 at S X R1 R2 R3 HR B ⊢
  refine (sStateFromBits_any _ _ _ _ R3.out (by omega)).mono ?_
  rintro e w8 ⟨rfl, b⟩
  rw [HQ.out]
  simp only
  replace HR := Lib.hid (rdB_grow HR.out b)
  replace S := Lib.hid (S.out.below b S.out.lt)
  replace X := Lib.hid (X.out.below b X.out.lt)
  replace R1 := Lib.hid (R1.out.below b)
  replace R2 := Lib.hid (R2.out.below b)
  replace R3 := Lib.hid (R3.out.below b)
  replace B := Lib.hid (below_two B.out b)
  clear b
  clear R3 HX2 HX3 HQ
  have S0 := S.out.c0
  have S1 := S.out.c1
  have S2 := S.out.c2
  have S3 := S.out.c3
  have S4 := S.out.c4
  have lS := S.out.lt
  go_wp2_with fail
  clear S0 S1 S2 S3 S4 lS
  have hal : Below w8.heap.size w8 (w8.alloc (.cells #[.int .i64 q0, .int .i64 q1, .int .i64 q2, .int .i64 q3, .int .i64 q4] 25)) := (Below.refl _ _).alloc (Nat.le_refl _) _
  have Y := Lib.hid (StateAt.new (T := 25) (t := q0) (m := q1) (r := q2) (s := q3) (k := q4) w8)
  replace HR := Lib.hid (rdB_grow HR.out hal)
  replace S := Lib.hid (S.out.below hal S.out.lt)
  replace X := Lib.hid (X.out.below hal X.out.lt)
  replace R1 := Lib.hid (R1.out.below hal)
  replace R2 := Lib.hid (R2.out.below hal)
  replace B := Lib.hid (below_two B.out hal)
  clear hal
  obtain ⟨E, hE⟩ : ∃ b, b = w8.heap.size := ⟨_, rfl⟩
  rw [← hE] at Y ⊢
  clear hE
  generalize w8.alloc (.cells #[.int .i64 q0, .int .i64 q1, .int .i64 q2, .int .i64 q3, .int .i64 q4] 25) = w9 at S X Y R1 R2 HR B ⊢
  refine (stateText_any _ _ _ _ _ _ (HV.out.1.below B.out hws)).mono ?_
  rintro e w10 ⟨rfl, b⟩
  have hus := textStr_size t m r s k
  obtain ⟨u, hu⟩ : ∃ u, textStr t m r s k = u := ⟨_, rfl⟩
  have HU := Lib.hid hu
  rw [hu] at hus ⊢
  clear hu
  replace HR := Lib.hid (rdB_grow HR.out b)
  replace S := Lib.hid (S.out.below b S.out.lt)
  replace X := Lib.hid (X.out.below b X.out.lt)
  replace Y := Lib.hid (Y.out.below b Y.out.lt)
  replace R1 := Lib.hid (R1.out.below b)
  replace R2 := Lib.hid (R2.out.below b)
  replace B := Lib.hid (below_two B.out b)
  clear b
  obtain ⟨oy, ho⟩ : ∃ o, readState (nums u) = o := ⟨_, rfl⟩
  have HOY := Lib.hid ho; clear ho
  obtain ⟨y0, y1, y2, y3, y4, oky, hg⟩ : ∃ t m r s k ok, (oy = none ∧ ok = false ∨ oy = some (t, m, r, s, k) ∧ ok = true) ∧ ∀ (v : World) (e : Ending) (v' : World), GivesRead v oy e v' → e = .returned (.tuple #[.agg #[.int .i64 t, .int .i64 m, .int .i64 r, .int .i64 s, .int .i64 k], .bool ok]) ∧ Below v.heap.size v v' := by
    rcases oy with _ | ⟨t, m, r, s, k⟩
    · exact ⟨0, 0, 0, 0, 0, false, .inl ⟨rfl, rfl⟩, fun _ _ _ h => h⟩
    · exact ⟨t, m, r, s, k, true, .inr ⟨rfl, rfl⟩, fun _ _ _ h => h⟩
  have GY := Lib.hid hg; clear hg
  go_wp2_with fail
  refine (readState_any u _ (HV.out.below B.out hws) (by omega)).mono ?_
  intro e w11 h11
  rw [HOY.out] at h11
  obtain ⟨rfl, b⟩ := GY.out.2 _ _ _ h11
  clear h11
  replace HR := Lib.hid (rdB_grow HR.out b)
  replace S := Lib.hid (S.out.below b S.out.lt)
  replace X := Lib.hid (X.out.below b X.out.lt)
  replace Y := Lib.hid (Y.out.below b Y.out.lt)
  replace R1 := Lib.hid (R1.out.below b)
  replace R2 := Lib.hid (R2.out.below b)
  replace B := Lib.hid (below_two B.out b)
  clear b
  go_wp2_with fail
  have hal : Below w11.heap.size w11 (w11.alloc (.cells #[.int .i64 y0, .int .i64 y1, .int .i64 y2, .int .i64 y3, .int .i64 y4] 25)) := (Below.refl _ _).alloc (Nat.le_refl _) _
  have YY := Lib.hid (StateAt.new (T := 25) (t := y0) (m := y1) (r := y2) (s := y3) (k := y4) w11)
  replace HR := Lib.hid (rdB_grow HR.out hal)
  replace S := Lib.hid (S.out.below hal S.out.lt)
  replace X := Lib.hid (X.out.below hal X.out.lt)
  replace Y := Lib.hid (Y.out.below hal Y.out.lt)
  replace R1 := Lib.hid (R1.out.below hal)
  replace R2 := Lib.hid (R2.out.below hal)
  replace B := Lib.hid (below_two B.out hal)
  clear hal
  obtain ⟨F, hF⟩ : ∃ b, b = w11.heap.size := ⟨_, rfl⟩
  rw [← hF] at YY ⊢
  clear hF
  generalize w11.alloc (.cells #[.int .i64 y0, .int .i64 y1, .int .i64 y2, .int .i64 y3, .int .i64 y4] 25) = w12 at S X Y YY R1 R2 HR B ⊢
  refine (drawReadState_any _ _ _ cs _ HR.out (by omega)).mono ?_
  rintro e w13 ⟨v, rfl, hvs, b⟩
  clear HR
  replace S := Lib.hid (S.out.below b S.out.lt)
  replace X := Lib.hid (X.out.below b X.out.lt)
  replace Y := Lib.hid (Y.out.below b Y.out.lt)
  replace YY := Lib.hid (YY.out.below b YY.out.lt)
  replace R1 := Lib.hid (R1.out.below b)
  replace R2 := Lib.hid (R2.out.below b)
  replace B := Lib.hid (below_two B.out b)
  clear b
  obtain ⟨oz, ho⟩ : ∃ o, readState (nums v) = o := ⟨_, rfl⟩
  have HOZ := Lib.hid ho; clear ho
  obtain ⟨z0, z1, z2, z3, z4, okz, hg⟩ : ∃ t m r s k ok, (oz = none ∧ ok = false ∨ oz = some (t, m, r, s, k) ∧ ok = true) ∧ ∀ (v : World) (e : Ending) (v' : World), GivesRead v oz e v' → e = .returned (.tuple #[.agg #[.int .i64 t, .int .i64 m, .int .i64 r, .int .i64 s, .int .i64 k], .bool ok]) ∧ Below v.heap.size v v' := by
    rcases oz with _ | ⟨t, m, r, s, k⟩
    · exact ⟨0, 0, 0, 0, 0, false, .inl ⟨rfl, rfl⟩, fun _ _ _ h => h⟩
    · exact ⟨t, m, r, s, k, true, .inr ⟨rfl, rfl⟩, fun _ _ _ h => h⟩
  have GZ := Lib.hid hg; clear hg
  go_wp2_with fail
  refine (readState_any v _ (HV.out.below B.out hws) hvs).mono ?_
  intro e w14 h14
  rw [HOZ.out] at h14
  obtain ⟨rfl, b⟩ := GZ.out.2 _ _ _ h14
  clear h14
  replace S := Lib.hid (S.out.below b S.out.lt)
  replace X := Lib.hid (X.out.below b X.out.lt)
  replace Y := Lib.hid (Y.out.below b Y.out.lt)
  replace YY := Lib.hid (YY.out.below b YY.out.lt)
  replace R1 := Lib.hid (R1.out.below b)
  replace R2 := Lib.hid (R2.out.below b)
  replace B := Lib.hid (below_two B.out b)
  clear b
  go_wp2_with fail
  have hal : Below w14.heap.size w14 (w14.alloc (.cells #[.int .i64 z0, .int .i64 z1, .int .i64 z2, .int .i64 z3, .int .i64 z4] 25)) := (Below.refl _ _).alloc (Nat.le_refl _) _
  have ZZ := Lib.hid (StateAt.new (T := 25) (t := z0) (m := z1) (r := z2) (s := z3) (k := z4) w14)
  replace S := Lib.hid (S.out.below hal S.out.lt)
  replace X := Lib.hid (X.out.below hal X.out.lt)
  replace Y := Lib.hid (Y.out.below hal Y.out.lt)
  replace YY := Lib.hid (YY.out.below hal YY.out.lt)
  replace R1 := Lib.hid (R1.out.below hal)
  replace R2 := Lib.hid (R2.out.below hal)
  replace B := Lib.hid (below_two B.out hal)
  clear hal
  obtain ⟨G, hG⟩ : ∃ b, b = w14.heap.size := ⟨_, rfl⟩
  rw [← hG] at ZZ ⊢
  clear hG
  generalize w14.alloc (.cells #[.int .i64 z0, .int .i64 z1, .int .i64 z2, .int .i64 z3, .int .i64 z4] 25) = w15 at S X Y YY ZZ R1 R2 B ⊢
  refine (sReadState_any v _ hvs).mono ?_
  intro e w16 h16
  rw [HOZ.out] at h16
  obtain ⟨rfl, b⟩ := GZ.out.2 _ _ _ h16
  clear h16
  replace S := Lib.hid (S.out.below b S.out.lt)
  replace X := Lib.hid (X.out.below b X.out.lt)
  replace Y := Lib.hid (Y.out.below b Y.out.lt)
  replace YY := Lib.hid (YY.out.below b YY.out.lt)
  replace ZZ := Lib.hid (ZZ.out.below b ZZ.out.lt)
  replace R1 := Lib.hid (R1.out.below b)
  replace R2 := Lib.hid (R2.out.below b)
  replace B := Lib.hid (below_two B.out b)
  clear b
  go_upto_region 14 with fail
  have hal : Below w16.heap.size w16 (w16.alloc (.cells #[.int .i64 z0, .int .i64 z1, .int .i64 z2, .int .i64 z3, .int .i64 z4] 25)) := (Below.refl _ _).alloc (Nat.le_refl _) _
  have VV := Lib.hid (StateAt.new (T := 25) (t := z0) (m := z1) (r := z2) (s := z3) (k := z4) w16)
  replace S := Lib.hid (S.out.below hal S.out.lt)
  replace X := Lib.hid (X.out.below hal X.out.lt)
  replace Y := Lib.hid (Y.out.below hal Y.out.lt)
  replace YY := Lib.hid (YY.out.below hal YY.out.lt)
  replace ZZ := Lib.hid (ZZ.out.below hal ZZ.out.lt)
  replace R1 := Lib.hid (R1.out.below hal)
  replace R2 := Lib.hid (R2.out.below hal)
  replace B := Lib.hid (below_two B.out hal)
  clear hal
  obtain ⟨I, hI⟩ : ∃ b, b = w16.heap.size := ⟨_, rfl⟩
  rw [← hI] at VV ⊢
  clear hI
  generalize w16.alloc (.cells #[.int .i64 z0, .int .i64 z1, .int .i64 z2, .int .i64 z3, .int .i64 z4] 25) = w17 at S X Y YY ZZ VV R1 R2 B ⊢
  have X17 : Hid (Six 25 w17 A D E F G I t m r s k q0 q1 q2 q3 q4 y0 y1 y2 y3 y4 z0 z1 z2 z3 z4) := ⟨S.out, X.out, Y.out, YY.out, ZZ.out, VV.out⟩
  clear S X Y YY ZZ VV
  have hbl : bl.length ≤ 8192 := by have h := stateToBits_len t m r s k; rw [HF.out] at h; exact h
  obtain ⟨ist, hist⟩ : ∃ b, isState t m r s k = b := ⟨_, rfl⟩
  have HI := Lib.hid hist; clear hist
  have n0 : (be != be) = false := by simp
  have n1 : (e1 != e1) = false := by simp
  have n2 : (okz != okz) = false := by simp
  have n3 : (ist != ist) = false := by simp
  have s1 := fun w => state_neq_self q0 q1 q2 q3 q4 w
  have s2 := fun w => state_neq_self z0 z1 z2 z3 z4 w
  have s3 := fun w => state_neq_self t m r s k w
  have hd : Below w17.heap.size w17 w17.drew := (Below.refl w17.heap.size w17).drew
  have XD := Lib.hid (X17.out.below hd)
  have BD := Lib.hid (below_two B.out hd)
  have RD1 := Lib.hid (R1.out.below hd)
  have RD2 := Lib.hid (R2.out.below hd)
  clear hd X17 B R1 R2
  have hcase : (oky = true ∧ t = y0 ∧ m = y1 ∧ r = y2 ∧ s = y3 ∧ k = y4 ∧ (u.toList == []) = false ∧ (u.toList != []) = true ∧ u ≠ ByteArray.empty) ∨ (oky = false ∧ u = ByteArray.empty) := by
    have hy := HOY.out
    rcases text_facts HU.out with ⟨hr, h1, h2, h3⟩ | ⟨hr, h1⟩
    · rw [hr] at hy
      rcases GY.out.1 with ⟨h, _⟩ | ⟨h, h4⟩
      · rw [h] at hy; cases hy
      · rw [h] at hy
        simp only [Option.some.injEq, Prod.mk.injEq] at hy
        obtain ⟨a, b, c, d, e⟩ := hy
        exact .inl ⟨h4, a, b, c, d, e, h1, h2, h3⟩
    · rw [hr] at hy
      rcases GY.out.1 with ⟨h, h4⟩ | ⟨h, _⟩
      · exact .inr ⟨h4, h1⟩
      · rw [h] at hy; cases hy
  clear GY HOY GZ HOZ
  clear oy oz
  rcases hcase with ⟨rfl, rfl, rfl, rfl, rfl, rfl, hu1, hu2, hu3⟩ | ⟨rfl, hu1⟩
  · refine wp_region_held_drew (S := fun w' => w'.cell? ⟨A, 0, none⟩ = some (.int .i64 t) ∧ w'.cell? ⟨A, 1, none⟩ = some (.int .i64 m) ∧ w'.cell? ⟨A, 2, none⟩ = some (.int .i64 r) ∧ w'.cell? ⟨A, 3, none⟩ = some (.int .i64 s) ∧ w'.cell? ⟨A, 4, none⟩ = some (.int .i64 k) ∧ w'.cell? ⟨D, 0, none⟩ = some (.int .i64 q0) ∧ w'.cell? ⟨D, 1, none⟩ = some (.int .i64 q1) ∧ w'.cell? ⟨D, 2, none⟩ = some (.int .i64 q2) ∧ w'.cell? ⟨D, 3, none⟩ = some (.int .i64 q3) ∧ w'.cell? ⟨D, 4, none⟩ = some (.int .i64 q4) ∧ w'.cell? ⟨E, 0, none⟩ = some (.int .i64 q0) ∧ w'.cell? ⟨E, 1, none⟩ = some (.int .i64 q1) ∧ w'.cell? ⟨E, 2, none⟩ = some (.int .i64 q2) ∧ w'.cell? ⟨E, 3, none⟩ = some (.int .i64 q3) ∧ w'.cell? ⟨E, 4, none⟩ = some (.int .i64 q4) ∧ w'.cell? ⟨F, 0, none⟩ = some (.int .i64 t) ∧ w'.cell? ⟨F, 1, none⟩ = some (.int .i64 m) ∧ w'.cell? ⟨F, 2, none⟩ = some (.int .i64 r) ∧ w'.cell? ⟨F, 3, none⟩ = some (.int .i64 s) ∧ w'.cell? ⟨F, 4, none⟩ = some (.int .i64 k) ∧ w'.cell? ⟨G, 0, none⟩ = some (.int .i64 z0) ∧ w'.cell? ⟨G, 1, none⟩ = some (.int .i64 z1) ∧ w'.cell? ⟨G, 2, none⟩ = some (.int .i64 z2) ∧ w'.cell? ⟨G, 3, none⟩ = some (.int .i64 z3) ∧ w'.cell? ⟨G, 4, none⟩ = some (.int .i64 z4) ∧ w'.cell? ⟨I, 0, none⟩ = some (.int .i64 z0) ∧ w'.cell? ⟨I, 1, none⟩ = some (.int .i64 z1) ∧ w'.cell? ⟨I, 2, none⟩ = some (.int .i64 z2) ∧ w'.cell? ⟨I, 3, none⟩ = some (.int .i64 z3) ∧ w'.cell? ⟨I, 4, none⟩ = some (.int .i64 z4)) (by kernel_rfl) (Six.cells XD.out) (fun hHeld => ?_)
    refine wpAnyH_take (i := 0) (v := ?_) rfl (by kernel_rfl) (by kernel_rfl) (by kernel_rfl) (fun _ _ _ h => h) (Or.inl ⟨by rfl, ?_⟩) (by assumption) ?_
    rotate_left
    · (intro w hSw; (try dsimp only at hSw); go_simp; (try with_reducible rfl))
    try simp only [List.getElem_toArray, List.getElem_cons_succ, List.getElem_cons_zero, Act.put, List.setIfInBounds_toArray, List.set_cons_zero, List.set_cons_succ]
    refine wpAnyH_take (i := 1) (v := ?_) rfl (by kernel_rfl) (by kernel_rfl) (by kernel_rfl) (fun _ _ _ h => h) (Or.inl ⟨by rfl, ?_⟩) (by assumption) ?_
    rotate_left
    · (intro w hSw; (try dsimp only at hSw); go_simp; (try with_reducible rfl))
    try simp only [List.getElem_toArray, List.getElem_cons_succ, List.getElem_cons_zero, Act.put, List.setIfInBounds_toArray, List.set_cons_zero, List.set_cons_succ]
    refine wpAnyH_take (i := 2) (v := ?_) rfl (by kernel_rfl) (by kernel_rfl) (by kernel_rfl) (fun _ _ _ h => h) (Or.inl ⟨by rfl, ?_⟩) (by assumption) ?_
    rotate_left
    · (intro w hSw; (try dsimp only at hSw); go_simp; (try with_reducible rfl))
    try simp only [List.getElem_toArray, List.getElem_cons_succ, List.getElem_cons_zero, Act.put, List.setIfInBounds_toArray, List.set_cons_zero, List.set_cons_succ]
    refine wpAnyH_take (i := 3) (v := ?_) rfl (by kernel_rfl) (by kernel_rfl) (by kernel_rfl) (fun _ _ _ h => h) (Or.inl ⟨by rfl, ?_⟩) (by assumption) ?_
    rotate_left
    · (intro w hSw; (try dsimp only at hSw); go_simp; (try with_reducible rfl))
    try simp only [List.getElem_toArray, List.getElem_cons_succ, List.getElem_cons_zero, Act.put, List.setIfInBounds_toArray, List.set_cons_zero, List.set_cons_succ]
    refine wpAnyH_take (i := 4) (v := ?_) rfl (by kernel_rfl) (by kernel_rfl) (by kernel_rfl) (fun _ _ _ h => h) (Or.inl ⟨by rfl, ?_⟩) (by assumption) ?_
    rotate_left
    · (intro w hSw; (try dsimp only at hSw); go_simp; (try with_reducible rfl))
    try simp only [List.getElem_toArray, List.getElem_cons_succ, List.getElem_cons_zero, Act.put, List.setIfInBounds_toArray, List.set_cons_zero, List.set_cons_succ]
    refine wpAnyH_take (i := 5) (v := ?_) rfl (by kernel_rfl) (by kernel_rfl) (by kernel_rfl) (fun _ _ _ h => h) (Or.inl ⟨by rfl, ?_⟩) (by assumption) ?_
    rotate_left
    · (intro w hSw; (try dsimp only at hSw); go_simp; (try with_reducible rfl))
    try simp only [List.getElem_toArray, List.getElem_cons_succ, List.getElem_cons_zero, Act.put, List.setIfInBounds_toArray, List.set_cons_zero, List.set_cons_succ]
    refine wpAnyH_ready (rs := [6]) (by kernel_rfl) (by simp) (AllReadyH.cons rfl (fun K hK => ?_) AllReadyH.nil)
    go_simp
    refine (like_yes _ _ _ _ _ _ _ _ RD1.out RD2.out (by omega)).mono ?_
    rintro e w18 ⟨rfl, b18⟩
    have X18 := Lib.hid (XD.out.below b18)
    have B18 := Lib.hid (below_two BD.out b18)
    have RX18 := Lib.hid (RD1.out.below b18)
    clear b18
    go_wp2_with fail
    refine hK.out _ _ ?_ (fun hHeld => ?_)
    · exact Six.cells X18.out
    clear hK K
    try simp only [List.getElem_toArray, List.getElem_cons_succ, List.getElem_cons_zero, Act.put, List.setIfInBounds_toArray, List.set_cons_zero, List.set_cons_succ]
    refine wpAnyH_take (i := 7) (v := ?_) rfl (by kernel_rfl) (by kernel_rfl) (by kernel_rfl) (fun _ _ _ h => h) (Or.inl ⟨by rfl, ?_⟩) (by assumption) ?_
    rotate_left
    · (intro w hSw; (try dsimp only at hSw); go_simp; (try with_reducible rfl))
    try simp only [List.getElem_toArray, List.getElem_cons_succ, List.getElem_cons_zero, Act.put, List.setIfInBounds_toArray, List.set_cons_zero, List.set_cons_succ]
    refine wpAnyH_take (i := 8) (v := ?_) rfl (by kernel_rfl) (by kernel_rfl) (by kernel_rfl) (fun _ _ _ h => h) (Or.inl ⟨by rfl, ?_⟩) (by assumption) ?_
    rotate_left
    · (intro w hSw; (try dsimp only at hSw); go_simp; (try with_reducible rfl))
    try simp only [List.getElem_toArray, List.getElem_cons_succ, List.getElem_cons_zero, Act.put, List.setIfInBounds_toArray, List.set_cons_zero, List.set_cons_succ]
    refine wpAnyH_take (i := 9) (v := ?_) rfl (by kernel_rfl) (by kernel_rfl) (by kernel_rfl) (fun _ _ _ h => h) (Or.inl ⟨by rfl, ?_⟩) (by assumption) ?_
    rotate_left
    · (intro w hSw; (try dsimp only at hSw); go_simp; (try with_reducible rfl))
    try simp only [List.getElem_toArray, List.getElem_cons_succ, List.getElem_cons_zero, Act.put, List.setIfInBounds_toArray, List.set_cons_zero, List.set_cons_succ]
    refine wpAnyH_take (i := 10) (v := ?_) rfl (by kernel_rfl) (by kernel_rfl) (by kernel_rfl) (fun _ _ _ h => h) (Or.inl ⟨by rfl, ?_⟩) (by assumption) ?_
    rotate_left
    · (intro w hSw; (try dsimp only at hSw); go_simp; (try with_reducible rfl))
    try simp only [List.getElem_toArray, List.getElem_cons_succ, List.getElem_cons_zero, Act.put, List.setIfInBounds_toArray, List.set_cons_zero, List.set_cons_succ]
    refine wpAnyH_take (i := 11) (v := ?_) rfl (by kernel_rfl) (by kernel_rfl) (by kernel_rfl) (fun _ _ _ h => h) (Or.inl ⟨by rfl, ?_⟩) (by assumption) ?_
    rotate_left
    · (intro w hSw; (try dsimp only at hSw); go_simp; (try with_reducible rfl))
    try simp only [List.getElem_toArray, List.getElem_cons_succ, List.getElem_cons_zero, Act.put, List.setIfInBounds_toArray, List.set_cons_zero, List.set_cons_succ]
    refine wpAnyH_take (i := 12) (v := ?_) rfl (by kernel_rfl) (by kernel_rfl) (by kernel_rfl) (fun _ _ _ h => h) (Or.inl ⟨by rfl, ?_⟩) (by assumption) ?_
    rotate_left
    · (intro w hSw; (try dsimp only at hSw); go_simp; (try with_reducible rfl))
    try simp only [List.getElem_toArray, List.getElem_cons_succ, List.getElem_cons_zero, Act.put, List.setIfInBounds_toArray, List.set_cons_zero, List.set_cons_succ]
    refine wpAnyH_take (i := 13) (v := ?_) rfl (by kernel_rfl) (by kernel_rfl) (by kernel_rfl) (fun _ _ _ h => h) (Or.inl ⟨by rfl, ?_⟩) (by assumption) ?_
    rotate_left
    · (intro w hSw; (try dsimp only at hSw); go_simp; (try with_reducible rfl))
    try simp only [List.getElem_toArray, List.getElem_cons_succ, List.getElem_cons_zero, Act.put, List.setIfInBounds_toArray, List.set_cons_zero, List.set_cons_succ]
    refine wpAnyH_take (i := 14) (v := ?_) rfl (by kernel_rfl) (by kernel_rfl) (by kernel_rfl) (fun _ _ _ h => h) (Or.inl ⟨by rfl, ?_⟩) (by assumption) ?_
    rotate_left
    · (intro w hSw; (try dsimp only at hSw); go_simp; (try with_reducible rfl))
    try simp only [List.getElem_toArray, List.getElem_cons_succ, List.getElem_cons_zero, Act.put, List.setIfInBounds_toArray, List.set_cons_zero, List.set_cons_succ]
    refine wpAnyH_take (i := 15) (v := ?_) rfl (by kernel_rfl) (by kernel_rfl) (by kernel_rfl) (fun _ _ _ h => h) (Or.inl ⟨by rfl, ?_⟩) (by assumption) ?_
    rotate_left
    · (intro w hSw; (try dsimp only at hSw); go_simp; (try with_reducible rfl))
    try simp only [List.getElem_toArray, List.getElem_cons_succ, List.getElem_cons_zero, Act.put, List.setIfInBounds_toArray, List.set_cons_zero, List.set_cons_succ]
    refine wpAnyH_take (i := 16) (v := ?_) rfl (by kernel_rfl) (by kernel_rfl) (by kernel_rfl) (fun _ _ _ h => h) (Or.inl ⟨by rfl, ?_⟩) (by assumption) ?_
    rotate_left
    · (intro w hSw; (try dsimp only at hSw); go_simp; (try with_reducible rfl))
    try simp only [List.getElem_toArray, List.getElem_cons_succ, List.getElem_cons_zero, Act.put, List.setIfInBounds_toArray, List.set_cons_zero, List.set_cons_succ]
    refine wpAnyH_take (i := 17) (v := ?_) rfl (by kernel_rfl) (by kernel_rfl) (by kernel_rfl) (fun _ _ _ h => h) (Or.inl ⟨by rfl, ?_⟩) (by assumption) ?_
    rotate_left
    · (intro w hSw; (try dsimp only at hSw); go_simp; (try with_reducible rfl))
    try simp only [List.getElem_toArray, List.getElem_cons_succ, List.getElem_cons_zero, Act.put, List.setIfInBounds_toArray, List.set_cons_zero, List.set_cons_succ]
    refine wpAnyH_take (i := 18) (v := ?_) rfl (by kernel_rfl) (by kernel_rfl) (by kernel_rfl) (fun _ _ _ h => h) (Or.inl ⟨by rfl, ?_⟩) (by assumption) ?_
    rotate_left
    · (intro w hSw; (try dsimp only at hSw); go_simp; (try with_reducible rfl))
    try simp only [List.getElem_toArray, List.getElem_cons_succ, List.getElem_cons_zero, Act.put, List.setIfInBounds_toArray, List.set_cons_zero, List.set_cons_succ]
    refine wpAnyH_take (i := 19) (v := ?_) rfl (by kernel_rfl) (by kernel_rfl) (by kernel_rfl) (fun _ _ _ h => h) (Or.inl ⟨by rfl, ?_⟩) (by assumption) ?_
    rotate_left
    · (intro w hSw; (try dsimp only at hSw); go_simp; (try with_reducible rfl))
    try simp only [List.getElem_toArray, List.getElem_cons_succ, List.getElem_cons_zero, Act.put, List.setIfInBounds_toArray, List.set_cons_zero, List.set_cons_succ]
    refine wpAnyH_take (i := 20) (v := ?_) rfl (by kernel_rfl) (by kernel_rfl) (by kernel_rfl) (fun _ _ _ h => h) (Or.inl ⟨by rfl, ?_⟩) (by assumption) ?_
    rotate_left
    · (intro w hSw; (try dsimp only at hSw); go_simp; (try with_reducible rfl))
    try simp only [List.getElem_toArray, List.getElem_cons_succ, List.getElem_cons_zero, Act.put, List.setIfInBounds_toArray, List.set_cons_zero, List.set_cons_succ]
    refine wpAnyH_take (i := 21) (v := ?_) rfl (by kernel_rfl) (by kernel_rfl) (by kernel_rfl) (fun _ _ _ h => h) (Or.inl ⟨by rfl, ?_⟩) (by assumption) ?_
    rotate_left
    · (intro w hSw; (try dsimp only at hSw); go_simp; (try with_reducible rfl))
    try simp only [List.getElem_toArray, List.getElem_cons_succ, List.getElem_cons_zero, Act.put, List.setIfInBounds_toArray, List.set_cons_zero, List.set_cons_succ]
    refine wpAnyH_ready (rs := [22]) (by kernel_rfl) (by simp) (AllReadyH.cons rfl (fun K hK => ?_) AllReadyH.nil)
    go_simp
    refine (sStateText_any _ _ _ _ _ _).mono ?_
    rintro e w19 ⟨rfl, b19⟩
    rw [HU.out]
    have X19 := Lib.hid (X18.out.below b19)
    have B19 := Lib.hid (below_two B18.out b19)
    have RX19 := Lib.hid (RX18.out.below b19)
    clear b19
    go_wp2_with fail
    refine hK.out _ _ ?_ (fun hHeld => ?_)
    · exact Six.cells X19.out
    clear hK K
    try simp only [List.getElem_toArray, List.getElem_cons_succ, List.getElem_cons_zero, Act.put, List.setIfInBounds_toArray, List.set_cons_zero, List.set_cons_succ]
    refine wpAnyH_take (i := 23) (v := ?_) rfl (by kernel_rfl) (by kernel_rfl) (by kernel_rfl) (fun _ _ _ h => h) (Or.inl ⟨by rfl, ?_⟩) (by assumption) ?_
    rotate_left
    · (intro w hSw; (try dsimp only at hSw); go_simp; (try with_reducible rfl))
    try simp only [List.getElem_toArray, List.getElem_cons_succ, List.getElem_cons_zero, Act.put, List.setIfInBounds_toArray, List.set_cons_zero, List.set_cons_succ]
    refine wpAnyH_take (i := 24) (v := ?_) rfl (by kernel_rfl) (by kernel_rfl) (by kernel_rfl) (fun _ _ _ h => h) (Or.inl ⟨by rfl, ?_⟩) (by assumption) ?_
    rotate_left
    · (intro w hSw; (try dsimp only at hSw); go_simp; (try with_reducible rfl))
    try simp only [List.getElem_toArray, List.getElem_cons_succ, List.getElem_cons_zero, Act.put, List.setIfInBounds_toArray, List.set_cons_zero, List.set_cons_succ]
    refine wpAnyH_take (i := 25) (v := ?_) rfl (by kernel_rfl) (by kernel_rfl) (by kernel_rfl) (fun _ _ _ h => h) (Or.inl ⟨by rfl, ?_⟩) (by assumption) ?_
    rotate_left
    · (intro w hSw; (try dsimp only at hSw); go_simp; (try with_reducible rfl))
    try simp only [List.getElem_toArray, List.getElem_cons_succ, List.getElem_cons_zero, Act.put, List.setIfInBounds_toArray, List.set_cons_zero, List.set_cons_succ]
    refine wpAnyH_take (i := 26) (v := ?_) rfl (by kernel_rfl) (by kernel_rfl) (by kernel_rfl) (fun _ _ _ h => h) (Or.inl ⟨by rfl, ?_⟩) (by assumption) ?_
    rotate_left
    · (intro w hSw; (try dsimp only at hSw); go_simp; (try with_reducible rfl))
    try simp only [List.getElem_toArray, List.getElem_cons_succ, List.getElem_cons_zero, Act.put, List.setIfInBounds_toArray, List.set_cons_zero, List.set_cons_succ]
    refine wpAnyH_take (i := 27) (v := ?_) rfl (by kernel_rfl) (by kernel_rfl) (by kernel_rfl) (fun _ _ _ h => h) (Or.inl ⟨by rfl, ?_⟩) (by assumption) ?_
    rotate_left
    · (intro w hSw; (try dsimp only at hSw); go_simp; (try with_reducible rfl))
    try simp only [List.getElem_toArray, List.getElem_cons_succ, List.getElem_cons_zero, Act.put, List.setIfInBounds_toArray, List.set_cons_zero, List.set_cons_succ]
    refine wpAnyH_take (i := 28) (v := ?_) rfl (by kernel_rfl) (by kernel_rfl) (by kernel_rfl) (fun _ _ _ h => h) (Or.inl ⟨by rfl, ?_⟩) (by assumption) ?_
    rotate_left
    · (intro w hSw; (try dsimp only at hSw); go_simp; (try with_reducible rfl))
    try simp only [List.getElem_toArray, List.getElem_cons_succ, List.getElem_cons_zero, Act.put, List.setIfInBounds_toArray, List.set_cons_zero, List.set_cons_succ]
    refine wpAnyH_take (i := 29) (v := ?_) rfl (by kernel_rfl) (by kernel_rfl) (by kernel_rfl) (fun _ _ _ h => h) (Or.inl ⟨by rfl, ?_⟩) (by assumption) ?_
    rotate_left
    · (intro w hSw; (try dsimp only at hSw); go_simp; (try with_reducible rfl))
    try simp only [List.getElem_toArray, List.getElem_cons_succ, List.getElem_cons_zero, Act.put, List.setIfInBounds_toArray, List.set_cons_zero, List.set_cons_succ]
    refine wpAnyH_take (i := 30) (v := ?_) rfl (by kernel_rfl) (by kernel_rfl) (by kernel_rfl) (fun _ _ _ h => h) (Or.inl ⟨by rfl, ?_⟩) (by assumption) ?_
    rotate_left
    · (intro w hSw; (try dsimp only at hSw); go_simp; (try with_reducible rfl))
    try simp only [List.getElem_toArray, List.getElem_cons_succ, List.getElem_cons_zero, Act.put, List.setIfInBounds_toArray, List.set_cons_zero, List.set_cons_succ]
    refine wpAnyH_take (i := 31) (v := ?_) rfl (by kernel_rfl) (by kernel_rfl) (by kernel_rfl) (fun _ _ _ h => h) (Or.inl ⟨by rfl, ?_⟩) (by assumption) ?_
    rotate_left
    · (intro w hSw; (try dsimp only at hSw); go_simp; (try with_reducible rfl))
    try simp only [List.getElem_toArray, List.getElem_cons_succ, List.getElem_cons_zero, Act.put, List.setIfInBounds_toArray, List.set_cons_zero, List.set_cons_succ]
    refine wpAnyH_take (i := 32) (v := ?_) rfl (by kernel_rfl) (by kernel_rfl) (by kernel_rfl) (fun _ _ _ h => h) (Or.inl ⟨by rfl, ?_⟩) (by assumption) ?_
    rotate_left
    · (intro w hSw; (try dsimp only at hSw); go_simp; (try with_reducible rfl))
    try simp only [List.getElem_toArray, List.getElem_cons_succ, List.getElem_cons_zero, Act.put, List.setIfInBounds_toArray, List.set_cons_zero, List.set_cons_succ]
    refine wpAnyH_take (i := 33) (v := ?_) rfl (by kernel_rfl) (by kernel_rfl) (by kernel_rfl) (fun _ _ _ h => h) (Or.inl ⟨by rfl, ?_⟩) (by assumption) ?_
    rotate_left
    · (intro w hSw; (try dsimp only at hSw); go_simp; (try with_reducible rfl))
    try simp only [List.getElem_toArray, List.getElem_cons_succ, List.getElem_cons_zero, Act.put, List.setIfInBounds_toArray, List.set_cons_zero, List.set_cons_succ]
    refine wpAnyH_take (i := 34) (v := ?_) rfl (by kernel_rfl) (by kernel_rfl) (by kernel_rfl) (fun _ _ _ h => h) (Or.inl ⟨by rfl, ?_⟩) (by assumption) ?_
    rotate_left
    · (intro w hSw; (try dsimp only at hSw); go_simp; (try with_reducible rfl))
    try simp only [List.getElem_toArray, List.getElem_cons_succ, List.getElem_cons_zero, Act.put, List.setIfInBounds_toArray, List.set_cons_zero, List.set_cons_succ]
    refine wpAnyH_take (i := 35) (v := ?_) rfl (by kernel_rfl) (by kernel_rfl) (by kernel_rfl) (fun _ _ _ h => h) (Or.inl ⟨by rfl, ?_⟩) (by assumption) ?_
    rotate_left
    · (intro w hSw; (try dsimp only at hSw); go_simp; (try with_reducible rfl))
    try simp only [List.getElem_toArray, List.getElem_cons_succ, List.getElem_cons_zero, Act.put, List.setIfInBounds_toArray, List.set_cons_zero, List.set_cons_succ]
    refine wpAnyH_take (i := 36) (v := ?_) rfl (by kernel_rfl) (by kernel_rfl) (by kernel_rfl) (fun _ _ _ h => h) (Or.inl ⟨by rfl, ?_⟩) (by assumption) ?_
    rotate_left
    · (intro w hSw; (try dsimp only at hSw); go_simp; (try with_reducible rfl))
    try simp only [List.getElem_toArray, List.getElem_cons_succ, List.getElem_cons_zero, Act.put, List.setIfInBounds_toArray, List.set_cons_zero, List.set_cons_succ]
    refine wpAnyH_take (i := 37) (v := ?_) rfl (by kernel_rfl) (by kernel_rfl) (by kernel_rfl) (fun _ _ _ h => h) (Or.inl ⟨by rfl, ?_⟩) (by assumption) ?_
    rotate_left
    · (intro w hSw; (try dsimp only at hSw); go_simp; (try with_reducible rfl))
    try simp only [List.getElem_toArray, List.getElem_cons_succ, List.getElem_cons_zero, Act.put, List.setIfInBounds_toArray, List.set_cons_zero, List.set_cons_succ]
    refine wpAnyH_take (i := 38) (v := ?_) rfl (by kernel_rfl) (by kernel_rfl) (by kernel_rfl) (fun _ _ _ h => h) (Or.inl ⟨by rfl, ?_⟩) (by assumption) ?_
    rotate_left
    · (intro w hSw; (try dsimp only at hSw); go_simp; (try with_reducible rfl))
    try simp only [List.getElem_toArray, List.getElem_cons_succ, List.getElem_cons_zero, Act.put, List.setIfInBounds_toArray, List.set_cons_zero, List.set_cons_succ]
    refine wpAnyH_take (i := 39) (v := ?_) rfl (by kernel_rfl) (by kernel_rfl) (by kernel_rfl) (fun _ _ _ h => h) (Or.inl ⟨by rfl, ?_⟩) (by assumption) ?_
    rotate_left
    · (intro w hSw; (try dsimp only at hSw); go_simp; (try with_reducible rfl))
    try simp only [List.getElem_toArray, List.getElem_cons_succ, List.getElem_cons_zero, Act.put, List.setIfInBounds_toArray, List.set_cons_zero, List.set_cons_succ]
    refine wpAnyH_take (i := 40) (v := ?_) rfl (by kernel_rfl) (by kernel_rfl) (by kernel_rfl) (fun _ _ _ h => h) (Or.inl ⟨by rfl, ?_⟩) (by assumption) ?_
    rotate_left
    · (intro w hSw; (try dsimp only at hSw); go_simp; (try with_reducible rfl))
    try simp only [List.getElem_toArray, List.getElem_cons_succ, List.getElem_cons_zero, Act.put, List.setIfInBounds_toArray, List.set_cons_zero, List.set_cons_succ]
    refine wpAnyH_take (i := 41) (v := ?_) rfl (by kernel_rfl) (by kernel_rfl) (by kernel_rfl) (fun _ _ _ h => h) (Or.inl ⟨by rfl, ?_⟩) (by assumption) ?_
    rotate_left
    · (intro w hSw; (try dsimp only at hSw); go_simp; (try with_reducible rfl))
    try simp only [List.getElem_toArray, List.getElem_cons_succ, List.getElem_cons_zero, Act.put, List.setIfInBounds_toArray, List.set_cons_zero, List.set_cons_succ]
    refine wpAnyH_take (i := 42) (v := ?_) rfl (by kernel_rfl) (by kernel_rfl) (by kernel_rfl) (fun _ _ _ h => h) (Or.inl ⟨by rfl, ?_⟩) (by assumption) ?_
    rotate_left
    · (intro w hSw; (try dsimp only at hSw); go_simp; (try with_reducible rfl))
    try simp only [List.getElem_toArray, List.getElem_cons_succ, List.getElem_cons_zero, Act.put, List.setIfInBounds_toArray, List.set_cons_zero, List.set_cons_succ]
    refine wpAnyH_take (i := 43) (v := ?_) rfl (by kernel_rfl) (by kernel_rfl) (by kernel_rfl) (fun _ _ _ h => h) (Or.inl ⟨by rfl, ?_⟩) (by assumption) ?_
    rotate_left
    · (intro w hSw; (try dsimp only at hSw); go_simp; (try with_reducible rfl))
    try simp only [List.getElem_toArray, List.getElem_cons_succ, List.getElem_cons_zero, Act.put, List.setIfInBounds_toArray, List.set_cons_zero, List.set_cons_succ]
    refine wpAnyH_take (i := 44) (v := ?_) rfl (by kernel_rfl) (by kernel_rfl) (by kernel_rfl) (fun _ _ _ h => h) (Or.inl ⟨by rfl, ?_⟩) (by assumption) ?_
    rotate_left
    · (intro w hSw; (try dsimp only at hSw); go_simp; (try with_reducible rfl))
    try simp only [List.getElem_toArray, List.getElem_cons_succ, List.getElem_cons_zero, Act.put, List.setIfInBounds_toArray, List.set_cons_zero, List.set_cons_succ]
    refine wpAnyH_take (i := 45) (v := ?_) rfl (by kernel_rfl) (by kernel_rfl) (by kernel_rfl) (fun _ _ _ h => h) (Or.inl ⟨by rfl, ?_⟩) (by assumption) ?_
    rotate_left
    · (intro w hSw; (try dsimp only at hSw); go_simp; (try with_reducible rfl))
    try simp only [List.getElem_toArray, List.getElem_cons_succ, List.getElem_cons_zero, Act.put, List.setIfInBounds_toArray, List.set_cons_zero, List.set_cons_succ]
    refine wpAnyH_take (i := 46) (v := ?_) rfl (by kernel_rfl) (by kernel_rfl) (by kernel_rfl) (fun _ _ _ h => h) (Or.inl ⟨by rfl, ?_⟩) (by assumption) ?_
    rotate_left
    · (intro w hSw; (try dsimp only at hSw); go_simp; (try with_reducible rfl))
    try simp only [List.getElem_toArray, List.getElem_cons_succ, List.getElem_cons_zero, Act.put, List.setIfInBounds_toArray, List.set_cons_zero, List.set_cons_succ]
    refine wpAnyH_take (i := 47) (v := ?_) rfl (by kernel_rfl) (by kernel_rfl) (by kernel_rfl) (fun _ _ _ h => h) (Or.inl ⟨by rfl, ?_⟩) (by assumption) ?_
    rotate_left
    · (intro w hSw; (try dsimp only at hSw); go_simp; (try with_reducible rfl))
    try simp only [List.getElem_toArray, List.getElem_cons_succ, List.getElem_cons_zero, Act.put, List.setIfInBounds_toArray, List.set_cons_zero, List.set_cons_succ]
    refine wpAnyH_take (i := 48) (v := ?_) rfl (by kernel_rfl) (by kernel_rfl) (by kernel_rfl) (fun _ _ _ h => h) (Or.inl ⟨by rfl, ?_⟩) (by assumption) ?_
    rotate_left
    · (intro w hSw; (try dsimp only at hSw); go_simp; (try with_reducible rfl))
    try simp only [List.getElem_toArray, List.getElem_cons_succ, List.getElem_cons_zero, Act.put, List.setIfInBounds_toArray, List.set_cons_zero, List.set_cons_succ]
    refine wpAnyH_take (i := 49) (v := ?_) rfl (by kernel_rfl) (by kernel_rfl) (by kernel_rfl) (fun _ _ _ h => h) (Or.inl ⟨by rfl, ?_⟩) (by assumption) ?_
    rotate_left
    · (intro w hSw; (try dsimp only at hSw); go_simp; (try with_reducible rfl))
    try simp only [List.getElem_toArray, List.getElem_cons_succ, List.getElem_cons_zero, Act.put, List.setIfInBounds_toArray, List.set_cons_zero, List.set_cons_succ]
    refine wpAnyH_take (i := 50) (v := ?_) rfl (by kernel_rfl) (by kernel_rfl) (by kernel_rfl) (fun _ _ _ h => h) (Or.inl ⟨by rfl, ?_⟩) (by assumption) ?_
    rotate_left
    · (intro w hSw; (try dsimp only at hSw); go_simp; (try with_reducible rfl))
    try simp only [List.getElem_toArray, List.getElem_cons_succ, List.getElem_cons_zero, Act.put, List.setIfInBounds_toArray, List.set_cons_zero, List.set_cons_succ]
    refine wpAnyH_take (i := 52) (v := ?_) rfl (by kernel_rfl) (by kernel_rfl) (by kernel_rfl) (fun _ _ _ h => h) (Or.inl ⟨by rfl, ?_⟩) (by assumption) ?_
    rotate_left
    · (intro w hSw; (try dsimp only at hSw); go_simp; (try with_reducible rfl))
    try simp only [List.getElem_toArray, List.getElem_cons_succ, List.getElem_cons_zero, Act.put, List.setIfInBounds_toArray, List.set_cons_zero, List.set_cons_succ]
    refine wpAnyH_ready (rs := [51]) (by kernel_rfl) (by simp) (AllReadyH.cons rfl (fun K hK => ?_) AllReadyH.nil)
    go_simp
    refine (isState_any _ _ _ _ _ _).mono ?_
    rintro e w20 ⟨rfl, b20⟩
    rw [HI.out]
    have X20 := Lib.hid (X19.out.below b20)
    have B20 := Lib.hid (below_two B19.out b20)
    have RX20 := Lib.hid (RX19.out.below b20)
    clear b20
    go_wp2_with fail
    refine hK.out _ _ ?_ (fun hHeld => ?_)
    · exact Six.cells X20.out
    clear hK K
    try simp only [List.getElem_toArray, List.getElem_cons_succ, List.getElem_cons_zero, Act.put, List.setIfInBounds_toArray, List.set_cons_zero, List.set_cons_succ]
    refine wpAnyH_ready (rs := [53]) (by kernel_rfl) (by simp) (AllReadyH.cons rfl (fun K hK => ?_) AllReadyH.nil)
    go_simp
    refine (sIsState_any _ _ _ _ _ _).mono ?_
    rintro e w21 ⟨rfl, b21⟩
    rw [HI.out]
    have X21 := Lib.hid (X20.out.below b21)
    have B21 := Lib.hid (below_two B20.out b21)
    have RX21 := Lib.hid (RX20.out.below b21)
    clear b21
    go_wp2_with fail
    refine hK.out _ _ ?_ (fun hHeld => ?_)
    · exact Six.cells X21.out
    clear hK K
    try simp only [List.getElem_toArray, List.getElem_cons_succ, List.getElem_cons_zero, Act.put, List.setIfInBounds_toArray, List.set_cons_zero, List.set_cons_succ]
    refine wpAnyH_take (i := 54) (v := ?_) rfl (by kernel_rfl) (by kernel_rfl) (by kernel_rfl) (fun _ _ _ h => h) (Or.inl ⟨by rfl, ?_⟩) (by assumption) ?_
    rotate_left
    · (intro w hSw; (try dsimp only at hSw); go_simp; (try with_reducible rfl))
    try simp only [List.getElem_toArray, List.getElem_cons_succ, List.getElem_cons_zero, Act.put, List.setIfInBounds_toArray, List.set_cons_zero, List.set_cons_succ]
    refine wpAnyH_take (i := 55) (v := ?_) rfl (by kernel_rfl) (by kernel_rfl) (by kernel_rfl) (fun _ _ _ h => h) (Or.inl ⟨by rfl, ?_⟩) (by assumption) ?_
    rotate_left
    · (intro w hSw; (try dsimp only at hSw); go_simp; (try with_reducible rfl))
    try simp only [List.getElem_toArray, List.getElem_cons_succ, List.getElem_cons_zero, Act.put, List.setIfInBounds_toArray, List.set_cons_zero, List.set_cons_succ]
    refine wpAnyH_done (by kernel_rfl) ?_ _
    by_cases hz : be = 0
    rotate_left
    · have t1 : (be != 0) = true := by simp [hz]
      clear hz
      go_wp2
      go_ret
      exact ⟨rfl, B21.out⟩
    subst hz
    have hbf := bits_facts HF.out
    have HBF := Lib.hid hbf; clear hbf
    have hc1 := HC1.out
    go_wp2_with fail
    refine (stateFromBits_any _ _ _ _ RX21.out (by omega) hc1.1 hc1.2).mono ?_
    rintro e w22 ⟨rfl, b22⟩
    rw [HBF.out]
    simp only
    have X22 := Lib.hid (X21.out.below b22)
    have B22 := Lib.hid (below_two B21.out b22)
    clear b22
    go_upto_region 19 with fail
    have hal : Below w22.heap.size w22 (w22.alloc (.cells #[.int .i64 t, .int .i64 m, .int .i64 r, .int .i64 s, .int .i64 k] 25)) := (Below.refl _ _).alloc (Nat.le_refl _) _
    have NN := Lib.hid (StateAt.new (T := 25) (t := t) (m := m) (r := r) (s := s) (k := k) w22)
    have SS := Lib.hid (X22.out.a.below hal X22.out.a.lt)
    have BB := Lib.hid (below_two B22.out hal)
    clear hal
    obtain ⟨J, hJ⟩ : ∃ b, b = w22.heap.size := ⟨_, rfl⟩
    rw [← hJ] at NN ⊢
    clear hJ
    generalize w22.alloc (.cells #[.int .i64 t, .int .i64 m, .int .i64 r, .int .i64 s, .int .i64 k] 25) = w23 at NN SS BB ⊢
    clear X18 X19 X20 X21 X22 B18 B19 B20 B21 B22 RX18 RX19 RX20 RX21 s1 s2 s3
    have a0 := NN.out.c0
    have a1 := NN.out.c1
    have a2 := NN.out.c2
    have a3 := NN.out.c3
    have a4 := NN.out.c4
    have d0 := SS.out.c0
    have d1 := SS.out.c1
    have d2 := SS.out.c2
    have d3 := SS.out.c3
    have d4 := SS.out.c4
    have se : ∀ w, (binOp .eql 25 (.agg #[.int .i64 t, .int .i64 m, .int .i64 r, .int .i64 s, .int .i64 k]) (.agg #[.int .i64 t, .int .i64 m, .int .i64 r, .int .i64 s, .int .i64 k])).run Tryd.prog w = .ok (.bool true) w := fun w => by rw [state_eql]; simp
    go_wp2
    go_ret
    exact ⟨rfl, BB.out⟩
  · refine wp_region_held_drew (S := fun w' => w'.cell? ⟨A, 0, none⟩ = some (.int .i64 t) ∧ w'.cell? ⟨A, 1, none⟩ = some (.int .i64 m) ∧ w'.cell? ⟨A, 2, none⟩ = some (.int .i64 r) ∧ w'.cell? ⟨A, 3, none⟩ = some (.int .i64 s) ∧ w'.cell? ⟨A, 4, none⟩ = some (.int .i64 k) ∧ w'.cell? ⟨D, 0, none⟩ = some (.int .i64 q0) ∧ w'.cell? ⟨D, 1, none⟩ = some (.int .i64 q1) ∧ w'.cell? ⟨D, 2, none⟩ = some (.int .i64 q2) ∧ w'.cell? ⟨D, 3, none⟩ = some (.int .i64 q3) ∧ w'.cell? ⟨D, 4, none⟩ = some (.int .i64 q4) ∧ w'.cell? ⟨E, 0, none⟩ = some (.int .i64 q0) ∧ w'.cell? ⟨E, 1, none⟩ = some (.int .i64 q1) ∧ w'.cell? ⟨E, 2, none⟩ = some (.int .i64 q2) ∧ w'.cell? ⟨E, 3, none⟩ = some (.int .i64 q3) ∧ w'.cell? ⟨E, 4, none⟩ = some (.int .i64 q4) ∧ w'.cell? ⟨F, 0, none⟩ = some (.int .i64 y0) ∧ w'.cell? ⟨F, 1, none⟩ = some (.int .i64 y1) ∧ w'.cell? ⟨F, 2, none⟩ = some (.int .i64 y2) ∧ w'.cell? ⟨F, 3, none⟩ = some (.int .i64 y3) ∧ w'.cell? ⟨F, 4, none⟩ = some (.int .i64 y4) ∧ w'.cell? ⟨G, 0, none⟩ = some (.int .i64 z0) ∧ w'.cell? ⟨G, 1, none⟩ = some (.int .i64 z1) ∧ w'.cell? ⟨G, 2, none⟩ = some (.int .i64 z2) ∧ w'.cell? ⟨G, 3, none⟩ = some (.int .i64 z3) ∧ w'.cell? ⟨G, 4, none⟩ = some (.int .i64 z4) ∧ w'.cell? ⟨I, 0, none⟩ = some (.int .i64 z0) ∧ w'.cell? ⟨I, 1, none⟩ = some (.int .i64 z1) ∧ w'.cell? ⟨I, 2, none⟩ = some (.int .i64 z2) ∧ w'.cell? ⟨I, 3, none⟩ = some (.int .i64 z3) ∧ w'.cell? ⟨I, 4, none⟩ = some (.int .i64 z4)) (by kernel_rfl) (Six.cells XD.out) (fun hHeld => ?_)
    refine wpAnyH_take (i := 0) (v := ?_) rfl (by kernel_rfl) (by kernel_rfl) (by kernel_rfl) (fun _ _ _ h => h) (Or.inl ⟨by rfl, ?_⟩) (by assumption) ?_
    rotate_left
    · (intro w hSw; (try dsimp only at hSw); go_simp; (try with_reducible rfl))
    try simp only [List.getElem_toArray, List.getElem_cons_succ, List.getElem_cons_zero, Act.put, List.setIfInBounds_toArray, List.set_cons_zero, List.set_cons_succ]
    refine wpAnyH_take (i := 1) (v := ?_) rfl (by kernel_rfl) (by kernel_rfl) (by kernel_rfl) (fun _ _ _ h => h) (Or.inl ⟨by rfl, ?_⟩) (by assumption) ?_
    rotate_left
    · (intro w hSw; (try dsimp only at hSw); go_simp; (try with_reducible rfl))
    try simp only [List.getElem_toArray, List.getElem_cons_succ, List.getElem_cons_zero, Act.put, List.setIfInBounds_toArray, List.set_cons_zero, List.set_cons_succ]
    refine wpAnyH_take (i := 2) (v := ?_) rfl (by kernel_rfl) (by kernel_rfl) (by kernel_rfl) (fun _ _ _ h => h) (Or.inl ⟨by rfl, ?_⟩) (by assumption) ?_
    rotate_left
    · (intro w hSw; (try dsimp only at hSw); go_simp; (try with_reducible rfl))
    try simp only [List.getElem_toArray, List.getElem_cons_succ, List.getElem_cons_zero, Act.put, List.setIfInBounds_toArray, List.set_cons_zero, List.set_cons_succ]
    refine wpAnyH_take (i := 3) (v := ?_) rfl (by kernel_rfl) (by kernel_rfl) (by kernel_rfl) (fun _ _ _ h => h) (Or.inl ⟨by rfl, ?_⟩) (by assumption) ?_
    rotate_left
    · (intro w hSw; (try dsimp only at hSw); go_simp; (try with_reducible rfl))
    try simp only [List.getElem_toArray, List.getElem_cons_succ, List.getElem_cons_zero, Act.put, List.setIfInBounds_toArray, List.set_cons_zero, List.set_cons_succ]
    refine wpAnyH_take (i := 4) (v := ?_) rfl (by kernel_rfl) (by kernel_rfl) (by kernel_rfl) (fun _ _ _ h => h) (Or.inl ⟨by rfl, ?_⟩) (by assumption) ?_
    rotate_left
    · (intro w hSw; (try dsimp only at hSw); go_simp; (try with_reducible rfl))
    try simp only [List.getElem_toArray, List.getElem_cons_succ, List.getElem_cons_zero, Act.put, List.setIfInBounds_toArray, List.set_cons_zero, List.set_cons_succ]
    refine wpAnyH_take (i := 5) (v := ?_) rfl (by kernel_rfl) (by kernel_rfl) (by kernel_rfl) (fun _ _ _ h => h) (Or.inl ⟨by rfl, ?_⟩) (by assumption) ?_
    rotate_left
    · (intro w hSw; (try dsimp only at hSw); go_simp; (try with_reducible rfl))
    try simp only [List.getElem_toArray, List.getElem_cons_succ, List.getElem_cons_zero, Act.put, List.setIfInBounds_toArray, List.set_cons_zero, List.set_cons_succ]
    refine wpAnyH_ready (rs := [6]) (by kernel_rfl) (by simp) (AllReadyH.cons rfl (fun K hK => ?_) AllReadyH.nil)
    go_simp
    refine (like_yes _ _ _ _ _ _ _ _ RD1.out RD2.out (by omega)).mono ?_
    rintro e w18 ⟨rfl, b18⟩
    have X18 := Lib.hid (XD.out.below b18)
    have B18 := Lib.hid (below_two BD.out b18)
    have RX18 := Lib.hid (RD1.out.below b18)
    clear b18
    go_wp2_with fail
    refine hK.out _ _ ?_ (fun hHeld => ?_)
    · exact Six.cells X18.out
    clear hK K
    try simp only [List.getElem_toArray, List.getElem_cons_succ, List.getElem_cons_zero, Act.put, List.setIfInBounds_toArray, List.set_cons_zero, List.set_cons_succ]
    refine wpAnyH_take (i := 7) (v := ?_) rfl (by kernel_rfl) (by kernel_rfl) (by kernel_rfl) (fun _ _ _ h => h) (Or.inl ⟨by rfl, ?_⟩) (by assumption) ?_
    rotate_left
    · (intro w hSw; (try dsimp only at hSw); go_simp; (try with_reducible rfl))
    try simp only [List.getElem_toArray, List.getElem_cons_succ, List.getElem_cons_zero, Act.put, List.setIfInBounds_toArray, List.set_cons_zero, List.set_cons_succ]
    refine wpAnyH_take (i := 8) (v := ?_) rfl (by kernel_rfl) (by kernel_rfl) (by kernel_rfl) (fun _ _ _ h => h) (Or.inl ⟨by rfl, ?_⟩) (by assumption) ?_
    rotate_left
    · (intro w hSw; (try dsimp only at hSw); go_simp; (try with_reducible rfl))
    try simp only [List.getElem_toArray, List.getElem_cons_succ, List.getElem_cons_zero, Act.put, List.setIfInBounds_toArray, List.set_cons_zero, List.set_cons_succ]
    refine wpAnyH_take (i := 9) (v := ?_) rfl (by kernel_rfl) (by kernel_rfl) (by kernel_rfl) (fun _ _ _ h => h) (Or.inl ⟨by rfl, ?_⟩) (by assumption) ?_
    rotate_left
    · (intro w hSw; (try dsimp only at hSw); go_simp; (try with_reducible rfl))
    try simp only [List.getElem_toArray, List.getElem_cons_succ, List.getElem_cons_zero, Act.put, List.setIfInBounds_toArray, List.set_cons_zero, List.set_cons_succ]
    refine wpAnyH_take (i := 10) (v := ?_) rfl (by kernel_rfl) (by kernel_rfl) (by kernel_rfl) (fun _ _ _ h => h) (Or.inl ⟨by rfl, ?_⟩) (by assumption) ?_
    rotate_left
    · (intro w hSw; (try dsimp only at hSw); go_simp; (try with_reducible rfl))
    try simp only [List.getElem_toArray, List.getElem_cons_succ, List.getElem_cons_zero, Act.put, List.setIfInBounds_toArray, List.set_cons_zero, List.set_cons_succ]
    refine wpAnyH_take (i := 11) (v := ?_) rfl (by kernel_rfl) (by kernel_rfl) (by kernel_rfl) (fun _ _ _ h => h) (Or.inl ⟨by rfl, ?_⟩) (by assumption) ?_
    rotate_left
    · (intro w hSw; (try dsimp only at hSw); go_simp; (try with_reducible rfl))
    try simp only [List.getElem_toArray, List.getElem_cons_succ, List.getElem_cons_zero, Act.put, List.setIfInBounds_toArray, List.set_cons_zero, List.set_cons_succ]
    refine wpAnyH_take (i := 12) (v := ?_) rfl (by kernel_rfl) (by kernel_rfl) (by kernel_rfl) (fun _ _ _ h => h) (Or.inl ⟨by rfl, ?_⟩) (by assumption) ?_
    rotate_left
    · (intro w hSw; (try dsimp only at hSw); go_simp; (try with_reducible rfl))
    try simp only [List.getElem_toArray, List.getElem_cons_succ, List.getElem_cons_zero, Act.put, List.setIfInBounds_toArray, List.set_cons_zero, List.set_cons_succ]
    refine wpAnyH_take (i := 13) (v := ?_) rfl (by kernel_rfl) (by kernel_rfl) (by kernel_rfl) (fun _ _ _ h => h) (Or.inl ⟨by rfl, ?_⟩) (by assumption) ?_
    rotate_left
    · (intro w hSw; (try dsimp only at hSw); go_simp; (try with_reducible rfl))
    try simp only [List.getElem_toArray, List.getElem_cons_succ, List.getElem_cons_zero, Act.put, List.setIfInBounds_toArray, List.set_cons_zero, List.set_cons_succ]
    refine wpAnyH_take (i := 14) (v := ?_) rfl (by kernel_rfl) (by kernel_rfl) (by kernel_rfl) (fun _ _ _ h => h) (Or.inl ⟨by rfl, ?_⟩) (by assumption) ?_
    rotate_left
    · (intro w hSw; (try dsimp only at hSw); go_simp; (try with_reducible rfl))
    try simp only [List.getElem_toArray, List.getElem_cons_succ, List.getElem_cons_zero, Act.put, List.setIfInBounds_toArray, List.set_cons_zero, List.set_cons_succ]
    refine wpAnyH_take (i := 15) (v := ?_) rfl (by kernel_rfl) (by kernel_rfl) (by kernel_rfl) (fun _ _ _ h => h) (Or.inl ⟨by rfl, ?_⟩) (by assumption) ?_
    rotate_left
    · (intro w hSw; (try dsimp only at hSw); go_simp; (try with_reducible rfl))
    try simp only [List.getElem_toArray, List.getElem_cons_succ, List.getElem_cons_zero, Act.put, List.setIfInBounds_toArray, List.set_cons_zero, List.set_cons_succ]
    refine wpAnyH_take (i := 16) (v := ?_) rfl (by kernel_rfl) (by kernel_rfl) (by kernel_rfl) (fun _ _ _ h => h) (Or.inl ⟨by rfl, ?_⟩) (by assumption) ?_
    rotate_left
    · (intro w hSw; (try dsimp only at hSw); go_simp; (try with_reducible rfl))
    try simp only [List.getElem_toArray, List.getElem_cons_succ, List.getElem_cons_zero, Act.put, List.setIfInBounds_toArray, List.set_cons_zero, List.set_cons_succ]
    refine wpAnyH_take (i := 17) (v := ?_) rfl (by kernel_rfl) (by kernel_rfl) (by kernel_rfl) (fun _ _ _ h => h) (Or.inl ⟨by rfl, ?_⟩) (by assumption) ?_
    rotate_left
    · (intro w hSw; (try dsimp only at hSw); go_simp; (try with_reducible rfl))
    try simp only [List.getElem_toArray, List.getElem_cons_succ, List.getElem_cons_zero, Act.put, List.setIfInBounds_toArray, List.set_cons_zero, List.set_cons_succ]
    refine wpAnyH_take (i := 18) (v := ?_) rfl (by kernel_rfl) (by kernel_rfl) (by kernel_rfl) (fun _ _ _ h => h) (Or.inl ⟨by rfl, ?_⟩) (by assumption) ?_
    rotate_left
    · (intro w hSw; (try dsimp only at hSw); go_simp; (try with_reducible rfl))
    try simp only [List.getElem_toArray, List.getElem_cons_succ, List.getElem_cons_zero, Act.put, List.setIfInBounds_toArray, List.set_cons_zero, List.set_cons_succ]
    refine wpAnyH_take (i := 19) (v := ?_) rfl (by kernel_rfl) (by kernel_rfl) (by kernel_rfl) (fun _ _ _ h => h) (Or.inl ⟨by rfl, ?_⟩) (by assumption) ?_
    rotate_left
    · (intro w hSw; (try dsimp only at hSw); go_simp; (try with_reducible rfl))
    try simp only [List.getElem_toArray, List.getElem_cons_succ, List.getElem_cons_zero, Act.put, List.setIfInBounds_toArray, List.set_cons_zero, List.set_cons_succ]
    refine wpAnyH_take (i := 20) (v := ?_) rfl (by kernel_rfl) (by kernel_rfl) (by kernel_rfl) (fun _ _ _ h => h) (Or.inl ⟨by rfl, ?_⟩) (by assumption) ?_
    rotate_left
    · (intro w hSw; (try dsimp only at hSw); go_simp; (try with_reducible rfl))
    try simp only [List.getElem_toArray, List.getElem_cons_succ, List.getElem_cons_zero, Act.put, List.setIfInBounds_toArray, List.set_cons_zero, List.set_cons_succ]
    refine wpAnyH_take (i := 21) (v := ?_) rfl (by kernel_rfl) (by kernel_rfl) (by kernel_rfl) (fun _ _ _ h => h) (Or.inl ⟨by rfl, ?_⟩) (by assumption) ?_
    rotate_left
    · (intro w hSw; (try dsimp only at hSw); go_simp; (try with_reducible rfl))
    try simp only [List.getElem_toArray, List.getElem_cons_succ, List.getElem_cons_zero, Act.put, List.setIfInBounds_toArray, List.set_cons_zero, List.set_cons_succ]
    refine wpAnyH_ready (rs := [22]) (by kernel_rfl) (by simp) (AllReadyH.cons rfl (fun K hK => ?_) AllReadyH.nil)
    go_simp
    refine (sStateText_any _ _ _ _ _ _).mono ?_
    rintro e w19 ⟨rfl, b19⟩
    rw [HU.out]
    have X19 := Lib.hid (X18.out.below b19)
    have B19 := Lib.hid (below_two B18.out b19)
    have RX19 := Lib.hid (RX18.out.below b19)
    clear b19
    go_wp2_with fail
    refine hK.out _ _ ?_ (fun hHeld => ?_)
    · exact Six.cells X19.out
    clear hK K
    try simp only [List.getElem_toArray, List.getElem_cons_succ, List.getElem_cons_zero, Act.put, List.setIfInBounds_toArray, List.set_cons_zero, List.set_cons_succ]
    refine wpAnyH_take (i := 23) (v := ?_) rfl (by kernel_rfl) (by kernel_rfl) (by kernel_rfl) (fun _ _ _ h => h) (Or.inl ⟨by rfl, ?_⟩) (by assumption) ?_
    rotate_left
    · (intro w hSw; (try dsimp only at hSw); go_simp; (try with_reducible rfl))
    try simp only [List.getElem_toArray, List.getElem_cons_succ, List.getElem_cons_zero, Act.put, List.setIfInBounds_toArray, List.set_cons_zero, List.set_cons_succ]
    refine wpAnyH_take (i := 24) (v := ?_) rfl (by kernel_rfl) (by kernel_rfl) (by kernel_rfl) (fun _ _ _ h => h) (Or.inl ⟨by rfl, ?_⟩) (by assumption) ?_
    rotate_left
    · (intro w hSw; (try dsimp only at hSw); go_simp; (try with_reducible rfl))
    try simp only [List.getElem_toArray, List.getElem_cons_succ, List.getElem_cons_zero, Act.put, List.setIfInBounds_toArray, List.set_cons_zero, List.set_cons_succ]
    refine wpAnyH_take (i := 25) (v := ?_) rfl (by kernel_rfl) (by kernel_rfl) (by kernel_rfl) (fun _ _ _ h => h) (Or.inl ⟨by rfl, ?_⟩) (by assumption) ?_
    rotate_left
    · (intro w hSw; (try dsimp only at hSw); go_simp; (try with_reducible rfl))
    try simp only [List.getElem_toArray, List.getElem_cons_succ, List.getElem_cons_zero, Act.put, List.setIfInBounds_toArray, List.set_cons_zero, List.set_cons_succ]
    refine wpAnyH_take (i := 26) (v := ?_) rfl (by kernel_rfl) (by kernel_rfl) (by kernel_rfl) (fun _ _ _ h => h) (Or.inl ⟨by rfl, ?_⟩) (by assumption) ?_
    rotate_left
    · (intro w hSw; (try dsimp only at hSw); go_simp; (try with_reducible rfl))
    try simp only [List.getElem_toArray, List.getElem_cons_succ, List.getElem_cons_zero, Act.put, List.setIfInBounds_toArray, List.set_cons_zero, List.set_cons_succ]
    refine wpAnyH_take (i := 27) (v := ?_) rfl (by kernel_rfl) (by kernel_rfl) (by kernel_rfl) (fun _ _ _ h => h) (Or.inl ⟨by rfl, ?_⟩) (by assumption) ?_
    rotate_left
    · (intro w hSw; (try dsimp only at hSw); go_simp; (try with_reducible rfl))
    try simp only [List.getElem_toArray, List.getElem_cons_succ, List.getElem_cons_zero, Act.put, List.setIfInBounds_toArray, List.set_cons_zero, List.set_cons_succ]
    refine wpAnyH_take (i := 28) (v := ?_) rfl (by kernel_rfl) (by kernel_rfl) (by kernel_rfl) (fun _ _ _ h => h) (Or.inl ⟨by rfl, ?_⟩) (by assumption) ?_
    rotate_left
    · (intro w hSw; (try dsimp only at hSw); go_simp; (try with_reducible rfl))
    try simp only [List.getElem_toArray, List.getElem_cons_succ, List.getElem_cons_zero, Act.put, List.setIfInBounds_toArray, List.set_cons_zero, List.set_cons_succ]
    refine wpAnyH_take (i := 29) (v := ?_) rfl (by kernel_rfl) (by kernel_rfl) (by kernel_rfl) (fun _ _ _ h => h) (Or.inl ⟨by rfl, ?_⟩) (by assumption) ?_
    rotate_left
    · (intro w hSw; (try dsimp only at hSw); go_simp; (try with_reducible rfl))
    try simp only [List.getElem_toArray, List.getElem_cons_succ, List.getElem_cons_zero, Act.put, List.setIfInBounds_toArray, List.set_cons_zero, List.set_cons_succ]
    refine wpAnyH_take (i := 30) (v := ?_) rfl (by kernel_rfl) (by kernel_rfl) (by kernel_rfl) (fun _ _ _ h => h) (Or.inl ⟨by rfl, ?_⟩) (by assumption) ?_
    rotate_left
    · (intro w hSw; (try dsimp only at hSw); go_simp; (try with_reducible rfl))
    try simp only [List.getElem_toArray, List.getElem_cons_succ, List.getElem_cons_zero, Act.put, List.setIfInBounds_toArray, List.set_cons_zero, List.set_cons_succ]
    refine wpAnyH_take (i := 31) (v := ?_) rfl (by kernel_rfl) (by kernel_rfl) (by kernel_rfl) (fun _ _ _ h => h) (Or.inl ⟨by rfl, ?_⟩) (by assumption) ?_
    rotate_left
    · (intro w hSw; (try dsimp only at hSw); go_simp; (try with_reducible rfl))
    try simp only [List.getElem_toArray, List.getElem_cons_succ, List.getElem_cons_zero, Act.put, List.setIfInBounds_toArray, List.set_cons_zero, List.set_cons_succ]
    refine wpAnyH_take (i := 32) (v := ?_) rfl (by kernel_rfl) (by kernel_rfl) (by kernel_rfl) (fun _ _ _ h => h) (Or.inl ⟨by rfl, ?_⟩) (by assumption) ?_
    rotate_left
    · (intro w hSw; (try dsimp only at hSw); go_simp; (try with_reducible rfl))
    try simp only [List.getElem_toArray, List.getElem_cons_succ, List.getElem_cons_zero, Act.put, List.setIfInBounds_toArray, List.set_cons_zero, List.set_cons_succ]
    refine wpAnyH_take (i := 33) (v := ?_) rfl (by kernel_rfl) (by kernel_rfl) (by kernel_rfl) (fun _ _ _ h => h) (Or.inl ⟨by rfl, ?_⟩) (by assumption) ?_
    rotate_left
    · (intro w hSw; (try dsimp only at hSw); go_simp; (try with_reducible rfl))
    try simp only [List.getElem_toArray, List.getElem_cons_succ, List.getElem_cons_zero, Act.put, List.setIfInBounds_toArray, List.set_cons_zero, List.set_cons_succ]
    refine wpAnyH_take (i := 34) (v := undef) rfl (by kernel_rfl) (by kernel_rfl) (by kernel_rfl) (fun _ _ _ h => h) (Or.inr ⟨by rfl, rfl⟩) (by assumption) ?_
    try simp only [List.getElem_toArray, List.getElem_cons_succ, List.getElem_cons_zero, Act.put, List.setIfInBounds_toArray, List.set_cons_zero, List.set_cons_succ]
    refine wpAnyH_take (i := 35) (v := undef) rfl (by kernel_rfl) (by kernel_rfl) (by kernel_rfl) (fun _ _ _ h => h) (Or.inr ⟨by rfl, rfl⟩) (by assumption) ?_
    try simp only [List.getElem_toArray, List.getElem_cons_succ, List.getElem_cons_zero, Act.put, List.setIfInBounds_toArray, List.set_cons_zero, List.set_cons_succ]
    refine wpAnyH_take (i := 36) (v := undef) rfl (by kernel_rfl) (by kernel_rfl) (by kernel_rfl) (fun _ _ _ h => h) (Or.inr ⟨by rfl, rfl⟩) (by assumption) ?_
    try simp only [List.getElem_toArray, List.getElem_cons_succ, List.getElem_cons_zero, Act.put, List.setIfInBounds_toArray, List.set_cons_zero, List.set_cons_succ]
    refine wpAnyH_take (i := 37) (v := ?_) rfl (by kernel_rfl) (by kernel_rfl) (by kernel_rfl) (fun _ _ _ h => h) (Or.inl ⟨by rfl, ?_⟩) (by assumption) ?_
    rotate_left
    · (intro w hSw; (try dsimp only at hSw); go_simp; (try with_reducible rfl))
    try simp only [List.getElem_toArray, List.getElem_cons_succ, List.getElem_cons_zero, Act.put, List.setIfInBounds_toArray, List.set_cons_zero, List.set_cons_succ]
    refine wpAnyH_take (i := 38) (v := ?_) rfl (by kernel_rfl) (by kernel_rfl) (by kernel_rfl) (fun _ _ _ h => h) (Or.inl ⟨by rfl, ?_⟩) (by assumption) ?_
    rotate_left
    · (intro w hSw; (try dsimp only at hSw); go_simp; (try with_reducible rfl))
    try simp only [List.getElem_toArray, List.getElem_cons_succ, List.getElem_cons_zero, Act.put, List.setIfInBounds_toArray, List.set_cons_zero, List.set_cons_succ]
    refine wpAnyH_take (i := 39) (v := ?_) rfl (by kernel_rfl) (by kernel_rfl) (by kernel_rfl) (fun _ _ _ h => h) (Or.inl ⟨by rfl, ?_⟩) (by assumption) ?_
    rotate_left
    · (intro w hSw; (try dsimp only at hSw); go_simp; (try with_reducible rfl))
    try simp only [List.getElem_toArray, List.getElem_cons_succ, List.getElem_cons_zero, Act.put, List.setIfInBounds_toArray, List.set_cons_zero, List.set_cons_succ]
    refine wpAnyH_take (i := 40) (v := ?_) rfl (by kernel_rfl) (by kernel_rfl) (by kernel_rfl) (fun _ _ _ h => h) (Or.inl ⟨by rfl, ?_⟩) (by assumption) ?_
    rotate_left
    · (intro w hSw; (try dsimp only at hSw); go_simp; (try with_reducible rfl))
    try simp only [List.getElem_toArray, List.getElem_cons_succ, List.getElem_cons_zero, Act.put, List.setIfInBounds_toArray, List.set_cons_zero, List.set_cons_succ]
    refine wpAnyH_take (i := 41) (v := ?_) rfl (by kernel_rfl) (by kernel_rfl) (by kernel_rfl) (fun _ _ _ h => h) (Or.inl ⟨by rfl, ?_⟩) (by assumption) ?_
    rotate_left
    · (intro w hSw; (try dsimp only at hSw); go_simp; (try with_reducible rfl))
    try simp only [List.getElem_toArray, List.getElem_cons_succ, List.getElem_cons_zero, Act.put, List.setIfInBounds_toArray, List.set_cons_zero, List.set_cons_succ]
    refine wpAnyH_take (i := 42) (v := ?_) rfl (by kernel_rfl) (by kernel_rfl) (by kernel_rfl) (fun _ _ _ h => h) (Or.inl ⟨by rfl, ?_⟩) (by assumption) ?_
    rotate_left
    · (intro w hSw; (try dsimp only at hSw); go_simp; (try with_reducible rfl))
    try simp only [List.getElem_toArray, List.getElem_cons_succ, List.getElem_cons_zero, Act.put, List.setIfInBounds_toArray, List.set_cons_zero, List.set_cons_succ]
    refine wpAnyH_take (i := 43) (v := ?_) rfl (by kernel_rfl) (by kernel_rfl) (by kernel_rfl) (fun _ _ _ h => h) (Or.inl ⟨by rfl, ?_⟩) (by assumption) ?_
    rotate_left
    · (intro w hSw; (try dsimp only at hSw); go_simp; (try with_reducible rfl))
    try simp only [List.getElem_toArray, List.getElem_cons_succ, List.getElem_cons_zero, Act.put, List.setIfInBounds_toArray, List.set_cons_zero, List.set_cons_succ]
    refine wpAnyH_take (i := 44) (v := ?_) rfl (by kernel_rfl) (by kernel_rfl) (by kernel_rfl) (fun _ _ _ h => h) (Or.inl ⟨by rfl, ?_⟩) (by assumption) ?_
    rotate_left
    · (intro w hSw; (try dsimp only at hSw); go_simp; (try with_reducible rfl))
    try simp only [List.getElem_toArray, List.getElem_cons_succ, List.getElem_cons_zero, Act.put, List.setIfInBounds_toArray, List.set_cons_zero, List.set_cons_succ]
    refine wpAnyH_take (i := 45) (v := ?_) rfl (by kernel_rfl) (by kernel_rfl) (by kernel_rfl) (fun _ _ _ h => h) (Or.inl ⟨by rfl, ?_⟩) (by assumption) ?_
    rotate_left
    · (intro w hSw; (try dsimp only at hSw); go_simp; (try with_reducible rfl))
    try simp only [List.getElem_toArray, List.getElem_cons_succ, List.getElem_cons_zero, Act.put, List.setIfInBounds_toArray, List.set_cons_zero, List.set_cons_succ]
    refine wpAnyH_take (i := 46) (v := ?_) rfl (by kernel_rfl) (by kernel_rfl) (by kernel_rfl) (fun _ _ _ h => h) (Or.inl ⟨by rfl, ?_⟩) (by assumption) ?_
    rotate_left
    · (intro w hSw; (try dsimp only at hSw); go_simp; (try with_reducible rfl))
    try simp only [List.getElem_toArray, List.getElem_cons_succ, List.getElem_cons_zero, Act.put, List.setIfInBounds_toArray, List.set_cons_zero, List.set_cons_succ]
    refine wpAnyH_take (i := 47) (v := ?_) rfl (by kernel_rfl) (by kernel_rfl) (by kernel_rfl) (fun _ _ _ h => h) (Or.inl ⟨by rfl, ?_⟩) (by assumption) ?_
    rotate_left
    · (intro w hSw; (try dsimp only at hSw); go_simp; (try with_reducible rfl))
    try simp only [List.getElem_toArray, List.getElem_cons_succ, List.getElem_cons_zero, Act.put, List.setIfInBounds_toArray, List.set_cons_zero, List.set_cons_succ]
    refine wpAnyH_take (i := 48) (v := ?_) rfl (by kernel_rfl) (by kernel_rfl) (by kernel_rfl) (fun _ _ _ h => h) (Or.inl ⟨by rfl, ?_⟩) (by assumption) ?_
    rotate_left
    · (intro w hSw; (try dsimp only at hSw); go_simp; (try with_reducible rfl))
    try simp only [List.getElem_toArray, List.getElem_cons_succ, List.getElem_cons_zero, Act.put, List.setIfInBounds_toArray, List.set_cons_zero, List.set_cons_succ]
    refine wpAnyH_take (i := 49) (v := ?_) rfl (by kernel_rfl) (by kernel_rfl) (by kernel_rfl) (fun _ _ _ h => h) (Or.inl ⟨by rfl, ?_⟩) (by assumption) ?_
    rotate_left
    · (intro w hSw; (try dsimp only at hSw); go_simp; (try with_reducible rfl))
    try simp only [List.getElem_toArray, List.getElem_cons_succ, List.getElem_cons_zero, Act.put, List.setIfInBounds_toArray, List.set_cons_zero, List.set_cons_succ]
    refine wpAnyH_take (i := 50) (v := ?_) rfl (by kernel_rfl) (by kernel_rfl) (by kernel_rfl) (fun _ _ _ h => h) (Or.inl ⟨by rfl, ?_⟩) (by assumption) ?_
    rotate_left
    · (intro w hSw; (try dsimp only at hSw); go_simp; (try with_reducible rfl))
    try simp only [List.getElem_toArray, List.getElem_cons_succ, List.getElem_cons_zero, Act.put, List.setIfInBounds_toArray, List.set_cons_zero, List.set_cons_succ]
    refine wpAnyH_take (i := 52) (v := ?_) rfl (by kernel_rfl) (by kernel_rfl) (by kernel_rfl) (fun _ _ _ h => h) (Or.inl ⟨by rfl, ?_⟩) (by assumption) ?_
    rotate_left
    · (intro w hSw; (try dsimp only at hSw); go_simp; (try with_reducible rfl))
    try simp only [List.getElem_toArray, List.getElem_cons_succ, List.getElem_cons_zero, Act.put, List.setIfInBounds_toArray, List.set_cons_zero, List.set_cons_succ]
    refine wpAnyH_ready (rs := [51]) (by kernel_rfl) (by simp) (AllReadyH.cons rfl (fun K hK => ?_) AllReadyH.nil)
    go_simp
    refine (isState_any _ _ _ _ _ _).mono ?_
    rintro e w20 ⟨rfl, b20⟩
    rw [HI.out]
    have X20 := Lib.hid (X19.out.below b20)
    have B20 := Lib.hid (below_two B19.out b20)
    have RX20 := Lib.hid (RX19.out.below b20)
    clear b20
    go_wp2_with fail
    refine hK.out _ _ ?_ (fun hHeld => ?_)
    · exact Six.cells X20.out
    clear hK K
    try simp only [List.getElem_toArray, List.getElem_cons_succ, List.getElem_cons_zero, Act.put, List.setIfInBounds_toArray, List.set_cons_zero, List.set_cons_succ]
    refine wpAnyH_ready (rs := [53]) (by kernel_rfl) (by simp) (AllReadyH.cons rfl (fun K hK => ?_) AllReadyH.nil)
    go_simp
    refine (sIsState_any _ _ _ _ _ _).mono ?_
    rintro e w21 ⟨rfl, b21⟩
    rw [HI.out]
    have X21 := Lib.hid (X20.out.below b21)
    have B21 := Lib.hid (below_two B20.out b21)
    have RX21 := Lib.hid (RX20.out.below b21)
    clear b21
    go_wp2_with fail
    refine hK.out _ _ ?_ (fun hHeld => ?_)
    · exact Six.cells X21.out
    clear hK K
    try simp only [List.getElem_toArray, List.getElem_cons_succ, List.getElem_cons_zero, Act.put, List.setIfInBounds_toArray, List.set_cons_zero, List.set_cons_succ]
    refine wpAnyH_take (i := 54) (v := ?_) rfl (by kernel_rfl) (by kernel_rfl) (by kernel_rfl) (fun _ _ _ h => h) (Or.inl ⟨by rfl, ?_⟩) (by assumption) ?_
    rotate_left
    · (intro w hSw; (try dsimp only at hSw); go_simp; (try with_reducible rfl))
    try simp only [List.getElem_toArray, List.getElem_cons_succ, List.getElem_cons_zero, Act.put, List.setIfInBounds_toArray, List.set_cons_zero, List.set_cons_succ]
    refine wpAnyH_take (i := 55) (v := ?_) rfl (by kernel_rfl) (by kernel_rfl) (by kernel_rfl) (fun _ _ _ h => h) (Or.inl ⟨by rfl, ?_⟩) (by assumption) ?_
    rotate_left
    · (intro w hSw; (try dsimp only at hSw); go_simp; (try with_reducible rfl))
    try simp only [List.getElem_toArray, List.getElem_cons_succ, List.getElem_cons_zero, Act.put, List.setIfInBounds_toArray, List.set_cons_zero, List.set_cons_succ]
    refine wpAnyH_done (by kernel_rfl) ?_ _
    by_cases hz : be = 0
    rotate_left
    · have t1 : (be != 0) = true := by simp [hz]
      clear hz
      go_wp2
      go_ret
      exact ⟨rfl, B21.out⟩
    subst hz
    have hbf := bits_facts HF.out
    have HBF := Lib.hid hbf; clear hbf
    have hc1 := HC1.out
    go_wp2_with fail
    refine (stateFromBits_any _ _ _ _ RX21.out (by omega) hc1.1 hc1.2).mono ?_
    rintro e w22 ⟨rfl, b22⟩
    rw [HBF.out]
    simp only
    have X22 := Lib.hid (X21.out.below b22)
    have B22 := Lib.hid (below_two B21.out b22)
    clear b22
    go_upto_region 19 with fail
    have hal : Below w22.heap.size w22 (w22.alloc (.cells #[.int .i64 t, .int .i64 m, .int .i64 r, .int .i64 s, .int .i64 k] 25)) := (Below.refl _ _).alloc (Nat.le_refl _) _
    have NN := Lib.hid (StateAt.new (T := 25) (t := t) (m := m) (r := r) (s := s) (k := k) w22)
    have SS := Lib.hid (X22.out.a.below hal X22.out.a.lt)
    have BB := Lib.hid (below_two B22.out hal)
    clear hal
    obtain ⟨J, hJ⟩ : ∃ b, b = w22.heap.size := ⟨_, rfl⟩
    rw [← hJ] at NN ⊢
    clear hJ
    generalize w22.alloc (.cells #[.int .i64 t, .int .i64 m, .int .i64 r, .int .i64 s, .int .i64 k] 25) = w23 at NN SS BB ⊢
    clear X18 X19 X20 X21 X22 B18 B19 B20 B21 B22 RX18 RX19 RX20 RX21 s1 s2 s3
    have a0 := NN.out.c0
    have a1 := NN.out.c1
    have a2 := NN.out.c2
    have a3 := NN.out.c3
    have a4 := NN.out.c4
    have d0 := SS.out.c0
    have d1 := SS.out.c1
    have d2 := SS.out.c2
    have d3 := SS.out.c3
    have d4 := SS.out.c4
    have se : ∀ w, (binOp .eql 25 (.agg #[.int .i64 t, .int .i64 m, .int .i64 r, .int .i64 s, .int .i64 k]) (.agg #[.int .i64 t, .int .i64 m, .int .i64 r, .int .i64 s, .int .i64 k])).run Tryd.prog w = .ok (.bool true) w := fun w => by rw [state_eql]; simp
    go_wp2
    go_ret
    exact ⟨rfl, BB.out⟩
end Go.Proofs.YtkidhilipeoliaaDoor.fnStates
