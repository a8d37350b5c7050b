/-
  The walk of laws.FnExactReadState: at every input it returns true and writes nothing that was there.
-/
import Derived.Test.YtenlfonekcpblaaDoorRows
import Derived.Test.YtenlfonekcpblaaDoorC4z
import Derived.WalkKit
import Derived.ProofKit
import Derived.OpenShut
import Derived.ShutString
import Derived.ChangeOld
import Derived.Below
import Derived.Lib.SmallJoins
namespace Go.Proofs.YtenlfonekcpblaaDoor.fnExactReadState
open Go.ChangeShapes Go.WideShapes Go.ChangeAt Go.RowKit Go.Joins
open Go.ChangeMaps (open_string shut_string)
set_option linter.unusedVariables false
theorem walk (a0 : ByteArray) (w : World) (w0 : a0.size ≤ maxLen) (hV : ReadHere w) :
    Calls Tryd.prog 5 #[.string a0] w fun e w' => e = .returned (.bool true) ∧ Below w.heap.size w w' := by
  by_cases hbig : a0.size ≤ 1048576
  · obtain ⟨o, ho⟩ : ∃ o, readState (nums a0) = o := ⟨_, rfl⟩
    have HO := Lib.hid ho; clear ho
    have hws : 3 < w.heap.size := hV.1.2
    have HV := Lib.hid hV; clear hV
    have hq : ¬ (a0.size : Int) > 1048576 := by omega
    obtain ⟨t, m, r, s, k, ok, hg⟩ : ∃ t m r s k ok, ∀ (v : World) (e : Ending) (v' : World), GivesRead v o e v' → e = .returned (.tuple #[.agg #[.int .i64 t, .int .i64 m, .int .i64 r, .int .i64 s, .int .i64 k], .bool ok]) ∧ Below v.heap.size v v' := by
      rcases o with _ | ⟨t, m, r, s, k⟩
      · exact ⟨0, 0, 0, 0, 0, false, fun _ _ _ h => h⟩
      · exact ⟨t, m, r, s, k, true, fun _ _ _ h => h⟩
    have HG := Lib.hid hg; clear hg
    go_enter Tryd.func5, Tryd.ntmps5
    go_wp2_with fail
    refine (sReadState_any a0 _ hbig).mono ?_
    intro e w1 h1
    rw [HO.out] at h1
    obtain ⟨rfl, b1⟩ := HG.out _ _ _ h1
    have X := Lib.hid (StateAt.new (T := 25) (t := t) (m := m) (r := r) (s := s) (k := k) w1)
    have B1 := Lib.hid (b1.alloc b1.size (.cells #[.int .i64 t, .int .i64 m, .int .i64 r, .int .i64 s, .int .i64 k] 25))
    clear b1 h1
    go_wp2_with fail
    obtain ⟨D, hD⟩ : ∃ D, D = w1.heap.size := ⟨_, rfl⟩
    rw [← hD] at X ⊢
    clear hD
    generalize w1.alloc (.cells #[.int .i64 t, .int .i64 m, .int .i64 r, .int .i64 s, .int .i64 k] 25) = w3 at B1 X ⊢
    refine (readState_any a0 _ (HV.out.below B1.out hws) hbig).mono ?_
    intro e w4 h4
    rw [HO.out] at h4
    obtain ⟨rfl, b4⟩ := HG.out _ _ _ h4
    have X5 := X.out.below b4 X.out.lt
    have hlt : D < w4.heap.size := X5.lt
    have B4 := Lib.hid ((below_two B1.out b4).alloc (below_two B1.out b4).size (.cells #[.int .i64 t, .int .i64 m, .int .i64 r, .int .i64 s, .int .i64 k] 25))
    have e0 := X5.c0
    have e1 := X5.c1
    have e2 := X5.c2
    have e3 := X5.c3
    have e4 := X5.c4
    clear X5 b4 h4 X
    go_wp2_with fail
    clear e0 e1 e2 e3 e4 hlt
    refine (eqState_any _ _ _ _ _ _).mono ?_
    rintro e w6 ⟨rfl, b6⟩
    have H6 := Lib.hid (below_two B4.out b6)
    have n1 : (ok != ok) = false := by simp
    clear b6 B4
    go_wp2_with fail
    go_ret
    exact ⟨rfl, H6.out⟩
  · have hq : (a0.size : Int) > 1048576 := by omega
    go_enter Tryd.func5, Tryd.ntmps5
    go_wp2
    go_ret
    exact ⟨rfl, Below.refl _ _⟩
end Go.Proofs.YtenlfonekcpblaaDoor.fnExactReadState
