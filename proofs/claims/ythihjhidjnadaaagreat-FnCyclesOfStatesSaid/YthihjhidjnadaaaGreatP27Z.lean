/-
  Contracts of the program's, the model's and the laws' functions, and plain mathematics, on which a proof of this claim stands (part Z).
-/
import Derived.Deep.QuietTactic
import Derived.BigQuiet
import Derived.StillTailTactics
import Derived.Deep.RegionHeld3
import Derived.Deep.AppendLies
import Derived.Deep.RegionWith
import Derived.Handy
import Derived.Test.YthihjhidjnadaaaGreatP27A
namespace Go.Proofs.YthihjhidjnadaaaGreat
section
section
open Go.RowKit
theorem rdB_later {w w' : World} {n : Nat} {ao : Option Addr} {cs : List Int} (h : RdB w w.heap.size ao n cs) (b : Below w.heap.size w w') : RdB w' w'.heap.size ao n cs := by
  have h1 := h.keep (w' := w') fun b' o hb => b.cell (p := ⟨b', o, none⟩) hb
  exact ⟨h1.len, fun hn => by
    obtain ⟨b', off, e, hb, hc⟩ := h1.here hn
    exact ⟨b', off, e, Nat.lt_of_lt_of_le hb b.size, hc⟩, h1.bound⟩
end
section
open Go.RowKit
end
end

section
open Go.RowKit
theorem isId_any (x : Int) (w : World) : Calls Tryz.prog 241 #[.int .i64 x] w fun e w' => e = .returned (.bool (inRange 0 16777215 x)) ∧ w = w' := by
  by_cases h0 : x < 0
  · rw [show inRange 0 16777215 x = false from by simp [inRange]; omega]
    go_enter Tryz.func241, Tryz.ntmps241
    go_wp2
    go_ret
    exact ⟨rfl, rfl⟩
  · by_cases h1 : 16777215 < x
    · rw [show inRange 0 16777215 x = false from by simp [inRange]; omega]
      go_enter Tryz.func241, Tryz.ntmps241
      go_wp2
      go_ret
      exact ⟨ret_bool (decide_eq_false (by omega)), rfl⟩
    · rw [show inRange 0 16777215 x = true from by simp [inRange]; omega]
      go_enter Tryz.func241, Tryz.ntmps241
      go_wp2
      go_ret
      exact ⟨rfl, rfl⟩
section
variable {T b : Nat} {w w' : World} {p : Value} {id t m r s k : Int}
end
end
end Go.Proofs.YthihjhidjnadaaaGreat
