/-
  Chapter 7: the Id of a schedule drawn.
-/
import Derived.Test.YtbdfnkhmnglpbaaDrawA
import Derived.Test.YtbdfnkhmnglpbaaDrawB
namespace Go.Proofs.Ytbdfnkhmnglpbaa
open Go.RowKit

/-- What a draw of a number from a source leaves. -/
def DrawnId (T : Nat) (w : World) (p : Nat) (e : Ending) (w' : World) : Prop := ∃ x : Int, e = .returned (.int .i64 x) ∧ Src T w' p ∧ w.grownBy w' (some p)
def tabId : Array Value := #[.int .i64 (-1), .int .i64 0, .int .i64 16777215, .int .i64 16777216]
set_option linter.unusedSimpArgs false in
set_option linter.unusedVariables false in
set_option maxHeartbeats 1000000 in
set_option maxRecDepth 100000 in
theorem l07DrawId_any (p : Nat) (w : World) (hs : Src 133 w p) : Calls Try.prog 69 #[.pointer (some ⟨p, 0, none⟩)] w (DrawnId 133 w p) := by
  have hp := hs.lt
  have S0 := Lib.hid hs; clear hs
  go_enter Try.func69, Try.ntmps69
  go_wp2_with fail
  refine (next_any _ _ _ S0.out (by omega)).mono ?_
  rintro e w1 ⟨y, rfl, -, -, -, hs1, g1⟩
  have hp1 := hs1.lt
  have S1 := Lib.hid hs1; have G1 := Lib.hid g1; clear hs1 g1
  by_cases h0 : y = 0
  · subst h0
    go_wp2_with fail
    have hal := Below.alloc (Below.refl w1.heap.size w1) (Nat.le_refl _) (.cells #[.int .i64 (-1), .int .i64 0, .int .i64 16777215, .int .i64 16777216] 2)
    refine (next_any _ _ _ (S1.out.below hal) (by omega)).mono ?_
    rintro e w2 ⟨z, rfl, z0, z1, -, hs2, g2⟩
    replace z1 := z1 (by omega)
    obtain ⟨z, rfl⟩ := Int.eq_ofNat_of_zero_le z0
    have hz : z < 4 := by omega
    obtain ⟨u, hv⟩ : ∃ u : Int, (#[.int .i64 (-1), .int .i64 0, .int .i64 16777215, .int .i64 16777216] : Array Value)[z]? = some (.int .i64 u) := by
      match z, hz with
      | 0, _ | 1, _ | 2, _ | 3, _ => exact ⟨_, rfl⟩
    have hct := (table_cell g2 hp1 z).trans hv
    have G2 := Lib.hid (grown_trans (grown_trans G1.out (grown_of_below hal)) g2)
    have S2 := Lib.hid hs2
    clear hs2 g2 hal hv
    go_wp2
    go_ret
    exact ⟨_, rfl, S2.out, G2.out⟩
  · have t0 : (y == 0) = false := by simp [h0]
    clear h0
    go_wp2_with fail
    refine (next_any _ _ _ S1.out (by omega)).mono ?_
    rintro e w2 ⟨z, rfl, -, -, -, hs2, g2⟩
    have G2 := Lib.hid (grown_trans G1.out g2)
    have S2 := Lib.hid hs2
    clear hs2 g2
    go_wp2
    go_ret
    exact ⟨_, rfl, S2.out, G2.out⟩
end Go.Proofs.Ytbdfnkhmnglpbaa
