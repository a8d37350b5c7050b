/-
  Chapter 16: the draws of its laws.
-/
import Derived.Test.YtbbodgeoenjdkaaPlE
import Derived.Test.YtbbodgeoenjdkaaDrawA
namespace Go.Proofs.Ytbbodgeoenjdkaa
open Go.RowKit

/-- Drawn demands and rounds; and slots. -/
def DrawnD2 (w : World) (e : Ending) (w' : World) : Prop := ∃ v t R, e = .returned (.tuple #[v, .int .i64 R]) ∧ OwnDm 38 w' w.heap.size v t ∧ t.length ≤ 41 ∧ Below w.heap.size w w'
def DrawnD3 (w : World) (e : Ending) (w' : World) : Prop := ∃ v t R S, e = .returned (.tuple #[v, .int .i64 R, .int .i64 S]) ∧ OwnDm 38 w' w.heap.size v t ∧ t.length ≤ 41 ∧ Below w.heap.size w w'
set_option maxHeartbeats 1000000 in
theorem drawSlotsNeeded_any (ao : Option Addr) (n cap : Nat) (cs : List Int) (w : World) (hr : RdB w w.heap.size ao n cs) (hn : n ≤ 1048576) :
    Calls Try.prog 29 #[.slice ao n cap] w (DrawnD2 w) := by
  have HR := Lib.hid hr; clear hr
  go_enter Try.func29, Try.ntmps29
  go_wp2_with fail
  refine (from_any _ _ _ cs _ HR.out hn).mono ?_
  rintro e w1 ⟨p, rfl, hlo, hs1, hb1⟩
  have hp1 : p < w1.heap.size := hs1.lt
  have HS1 := Lib.hid hs1; have HB1 := Lib.hid hb1; clear hs1 hb1
  go_wp2_with fail
  refine (l16Draw_any p _ HS1.out).mono ?_
  rintro e w2 ⟨v, t, rfl, o2, hl, hs2, g2⟩
  have HO2 := Lib.hid o2; have HS2 := Lib.hid hs2; have HB2 := Lib.hid (HB1.out.grown g2 HB1.out.size (fun k hk => by cases hk; exact hlo)); clear o2 hs2 g2 HS1
  go_wp2_with fail
  refine (l16DrawRounds_any p _ HS2.out).mono ?_
  rintro e w3 ⟨R, rfl, hs3, g3⟩
  have HO3 := Lib.hid (HO2.out.old g3 hp1); have HB3 := Lib.hid (HB2.out.grown g3 HB2.out.size (fun k hk => by cases hk; exact hlo)); clear hs3 g3 HO2 HS2 HB2
  go_wp2_with fail
  go_ret2
  exact ⟨_, t, _, rfl, HO3.out.more HB1.out.size, hl, HB3.out⟩
set_option maxHeartbeats 1000000 in
theorem drawPlanDemands_any (ao : Option Addr) (n cap : Nat) (cs : List Int) (w : World) (hr : RdB w w.heap.size ao n cs) (hn : n ≤ 1048576) :
    Calls Try.prog 14 #[.slice ao n cap] w (DrawnD3 w) := by
  have HR := Lib.hid hr; clear hr
  go_enter Try.func14, Try.ntmps14
  go_wp2_with fail
  refine (from_any _ _ _ cs _ HR.out hn).mono ?_
  rintro e w1 ⟨p, rfl, hlo, hs1, hb1⟩
  have hp1 : p < w1.heap.size := hs1.lt
  have HS1 := Lib.hid hs1; have HB1 := Lib.hid hb1; clear hs1 hb1
  go_wp2_with fail
  refine (l16Draw_any p _ HS1.out).mono ?_
  rintro e w2 ⟨v, t, rfl, o2, hl, hs2, g2⟩
  have HO2 := Lib.hid o2; have HS2 := Lib.hid hs2; have HB2 := Lib.hid (HB1.out.grown g2 HB1.out.size (fun k hk => by cases hk; exact hlo)); clear o2 hs2 g2 HS1
  go_wp2_with fail
  refine (l16DrawRounds_any p _ HS2.out).mono ?_
  rintro e w3 ⟨R, rfl, hs3, g3⟩
  have HO3 := Lib.hid (HO2.out.old g3 hp1); have HS3 := Lib.hid hs3; have HB3 := Lib.hid (HB2.out.grown g3 HB2.out.size (fun k hk => by cases hk; exact hlo)); clear hs3 g3 HO2 HS2 HB2
  go_wp2_with fail
  refine (l16DrawSlots_any p _ HS3.out).mono ?_
  rintro e w4 ⟨S, rfl, hs4, g4⟩
  have HO4 := Lib.hid (HO3.out.old g4 hp1); have HB4 := Lib.hid (HB3.out.grown g4 HB3.out.size (fun k hk => by cases hk; exact hlo)); clear hs4 g4 HO3 HS3 HB3
  go_wp2_with fail
  go_ret3
  exact ⟨_, t, _, _, rfl, HO4.out.more HB1.out.size, hl, HB4.out⟩
end Go.Proofs.Ytbbodgeoenjdkaa
