/-
  Chapter 4: spec.DrawStateToBits, DrawReadState.
-/
import Derived.Test.YtkidhilipeoliaaDoorC4k
import Derived.Test.YtkidhilipeoliaaDoorC4s
import Derived.Test.YtkidhilipeoliaaDoorDrawB
namespace Go.Proofs.YtkidhilipeoliaaDoor
open Go.RowKit
/-- What a draw of a state leaves. -/
def DrawnOne (w : World) (e : Ending) (w' : World) : Prop :=
  ∃ t m r s k : Int, e = .returned (.agg #[.int .i64 t, .int .i64 m, .int .i64 r, .int .i64 s, .int .i64 k]) ∧ Below w.heap.size w w'
theorem textStr_size (t m r s k : Int) : (textStr t m r s k).size ≤ 1000 := by
  cases h : isState t m r s k
  · rw [ts_1 h]; decide
  · obtain ⟨a1, a2, a3, a4, a5⟩ := isState_iff.1 h
    rw [ts_0 h]
    obtain ⟨t, rfl⟩ := Int.eq_ofNat_of_zero_le a1.1
    obtain ⟨m, rfl⟩ := Int.eq_ofNat_of_zero_le a2.1
    obtain ⟨r, rfl⟩ := Int.eq_ofNat_of_zero_le a3.1
    obtain ⟨s, rfl⟩ := Int.eq_ofNat_of_zero_le a4.1
    obtain ⟨k, rfl⟩ := Int.eq_ofNat_of_zero_le a5.1
    have h1 := decStr_size t (by omega)
    have h2 := decStr_size m (by omega)
    have h3 := decStr_size r (by omega)
    have h4 := decStr_size s (by omega)
    have h5 := decStr_size k (by omega)
    rw [slashed_five]
    simp only [ByteArray.size_append]
    have : (ByteArray.mk #[47]).size = 1 := rfl
    omega
set_option maxRecDepth 100000 in
theorem drawStateToBits_any (ao : Option Addr) (n cap : Nat) (cs : List Int) (w : World) (hr : RdB w w.heap.size ao n cs) (hn : n ≤ 1048576) :
    Calls Tryd.prog 5 #[.slice ao n cap] w (DrawnOne w) := by
  have hb0 : Below w.heap.size w (w.alloc (.cells #[.int .i64 0, .int .i64 0, .int .i64 0, .int .i64 0, .int .i64 0] 25)) := (Below.refl _ _).alloc (Nat.le_refl _) _
  have hr0 := rdB_grow hr hb0
  have z1 := StateAt.new (T := 25) (t := 0) (m := 0) (r := 0) (s := 0) (k := 0) w
  have HB := Lib.hid hb0; clear hb0
  have HR := Lib.hid hr0; clear hr0 hr
  have Z1 := Lib.hid z1; clear z1
  go_enter Tryd.func5, Tryd.ntmps5
  go_wp2_with fail
  generalize (w.alloc (.cells #[.int .i64 0, .int .i64 0, .int .i64 0, .int .i64 0, .int .i64 0] 25)) = w0 at HB HR Z1 ⊢
  refine (from_any _ _ _ cs _ HR.out hn).mono ?_
  rintro e w1 ⟨p, rfl, hlo, hs1, hb1⟩
  have H1 : Hid (HeldS 2 64 w0 w1 p []) := HeldS.start hb1 hlo hs1
  clear hlo hs1 hb1
  go_wp2_with fail
  refine (l04DrawAny_any _ _ H1.out.src).mono ?_
  rintro e w2 ⟨a, b, c, d, f, rfl, hs2, g2⟩
  have H2 := Lib.hid (H1.out.next hs2 g2)
  clear hs2 g2 H1
  have Z := Z1.out.below H2.out.below Z1.out.lt
  have ZZ := Lib.hid Z
  have B2 := Lib.hid (below_two HB.out H2.out.below)
  have c0 := Z.c0; have c1 := Z.c1; have c2 := Z.c2; have c3 := Z.c3; have c4 := Z.c4; have f0 := Z.f 0; have f1 := Z.f 1; have f2 := Z.f 2; have f3 := Z.f 3; have f4 := Z.f 4
  clear Z H2
  go_wp2_with fail
  clear c0 c1 c2 c3 c4 f0 f1 f2 f3 f4
  change bodyPost _ _ _ _ _ (setFive w2 w.heap.size a b c d f)
  have SF := StateAt.five ZZ.out a b c d f
  have BF := below_two' B2.out (below_five (B := w.heap.size) (w := w2) (b := w.heap.size) (Nat.le_refl _) a b c d f)
  generalize setFive w2 w.heap.size a b c d f = wz at SF BF ⊢
  have e0 := SF.c0
  have e1 := SF.c1
  have e2 := SF.c2
  have e3 := SF.c3
  have e4 := SF.c4
  exact bodyPost_ret (v := .agg #[.int .i64 a, .int .i64 b, .int .i64 c, .int .i64 d, .int .i64 f]) (by simp [results, Tryd.results5, go_sem, e0, e1, e2, e3, e4]) rfl ⟨_, _, _, _, _, rfl, BF⟩
/-- What a draw of a text leaves. -/
def DrawnWord (w : World) (e : Ending) (w' : World) : Prop := ∃ u : ByteArray, e = .returned (.string u) ∧ u.size ≤ 1048576 ∧ Below w.heap.size w w'
set_option maxRecDepth 100000 in
theorem drawReadState_any (ao : Option Addr) (n cap : Nat) (cs : List Int) (w : World) (hr : RdB w w.heap.size ao n cs) (hn : n ≤ 1048576) :
    Calls Tryd.prog 13 #[.slice ao n cap] w (DrawnWord w) := by
  have HR := Lib.hid hr; clear hr
  go_enter Tryd.func13, Tryd.ntmps13
  go_wp2_with fail
  refine (from_any _ _ _ cs _ HR.out hn).mono ?_
  rintro e w1 ⟨p, rfl, hlo, hs1, hb1⟩
  have H1 : Hid (HeldS 2 64 w w1 p []) := HeldS.start hb1 hlo hs1
  clear hlo hs1 hb1
  go_wp2_with fail
  refine (l04DrawAny_any _ _ H1.out.src).mono ?_
  rintro e w2 ⟨a, b, c, d, f, rfl, hs2, g2⟩
  have H2 := Lib.hid (H1.out.next hs2 g2)
  clear hs2 g2 H1
  go_wp2_with fail
  refine (sStateText_any _ _ _ _ _ _).mono ?_
  rintro e w3 ⟨rfl, b3⟩
  have H3 := Lib.hid (H2.out.still b3)
  clear b3 H2
  have hts := textStr_size a b c d f
  obtain ⟨u, hu⟩ : ∃ u, textStr a b c d f = u := ⟨_, rfl⟩
  rw [hu] at hts ⊢
  clear hu
  go_wp2_with fail
  refine (next_any _ _ _ H3.out.src (by omega)).mono ?_
  rintro e w4 ⟨y, rfl, -, -, -, hs4, g4⟩
  have H4 := Lib.hid (H3.out.next hs4 g4)
  clear hs4 g4 H3
  by_cases h0 : y = 0
  · subst h0
    go_wp2_with fail
    refine (damage_any _ u _ H4.out.src (by omega)).mono ?_
    rintro e w5 ⟨v, rfl, hv, hs5, g5⟩
    have H5 := Lib.hid (H4.out.next hs5 g5)
    clear hs5 g5 H4
    go_wp2_with fail
    go_ret
    exact ⟨v, rfl, by omega, H5.out.below⟩
  · have t0 : (y == 0) = false := by simp [h0]
    clear h0
    go_wp2
    go_ret
    exact ⟨u, rfl, by omega, H4.out.below⟩
end Go.Proofs.YtkidhilipeoliaaDoor
