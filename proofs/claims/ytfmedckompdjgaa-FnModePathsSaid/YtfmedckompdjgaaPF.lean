/-
  Chapter 11: the program's changes, its closure, slices.IndexFunc over it, firstStep.
-/
import Derived.Test.YtfmedckompdjgaaPE
import Derived.BigQuiet
namespace Go.Proofs.Ytfmedckompdjgaa
open Go.RowKit

/-- Block b is a map of the call's own, whatever it holds. -/
def MapAny (w : World) (b : Nat) : Prop := ∃ f, MapAt11 w b f
theorem grown_drew {w w1 : World} {b : Nat} (h : w.grownBy w1 (some b)) (N : Nat) : w.grownBy (w1.drewN N) (some b) := grown_low h (below_drewN' (Below.refl _ _) N)
set_option maxRecDepth 100000 in
theorem changesD_any (b : Nat) (ao : Option Addr) (n cap : Nat) (cs : List Mc) (s : Nat) (tz : Int) (w : World) (hm : MapAny w b) (hr : RdM w ao n cs) (ht : isModes (mds cs) = true) (hs : s < n) (hto : 0 ≤ tz ∧ tz < 16) (v : Int) (r : Bool) (hv : valf (graphD (mds cs) s) tz = v) (hrr : (graphD (mds cs) s tz).isSome = r) :
    Calls Try.prog 84 #[.map (some b), .slice ao n cap, .int .i64 (s : Int), .int .i64 tz] w fun e w' => e = .returned (.tuple #[.int .i64 v, .bool r]) ∧ MapAt11 w' b (graphD (mds cs) s) ∧ w.grownBy w' (some b) := by
  obtain ⟨f0, nb, -, hm⟩ := hm
  have HFILL := Lib.hid (fillD_any b nb f0 ao n cap cs s w hm hr ht hs)
  have HV := Lib.hid hv; have HRR := Lib.hid hrr
  clear hm hr ht hv hrr
  go_enter Try.func84, Try.ntmps84
  go_wp2_with fail
  refine HFILL.out.mono ?_
  rintro e w1 ⟨rfl, ⟨n1, hn1, hm1⟩, hg1⟩
  have hmN := fun N => hm1.below (below_drewN' (Below.refl _ w1) N)
  have hlk : ∀ N, (Instr.lookup 91 (.map (some b)) (.int .i64 tz) false).run Try.prog (w1.drewN N) = .ok (.int .i64 v) (w1.drewN N) := fun N => by
    have := lookup_run (P := Try.prog) (w1.drewN N) Try.underlying2 Try.underlying2 Try.underlying91 (zero64m _) (hmN N) tz (by omega)
    rw [HV.out] at this
    exact this
  have HHAS := Lib.hid (fun N => hasD_any b n1 _ tz (w1.drewN N) (hmN N) (by omega) r HRR.out)
  have HM1 := Lib.hid hmN; have HG1 := Lib.hid hg1
  clear hm1 hmN hg1
  go_wp2_with fail
  go_quiet ((go_at_call 116; exact quiet_left (HHAS.out _)))
  go_wp2_with fail
  go_ret2
  exact ⟨rfl, ⟨n1, hn1, HM1.out _⟩, grown_drew HG1.out _⟩
end Go.Proofs.Ytfmedckompdjgaa
