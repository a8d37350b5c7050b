/-
  Chapter 3: spec.DrawIsFound; what FnFound says.
-/
import Derived.Test.YtfmbefmiglpijaaC3p
namespace Go.Proofs.Ytfmbefmiglpijaa
open Go.RowKit

set_option maxRecDepth 100000 in
theorem drawIsFound_any (ao : Option Addr) (n cap : Nat) (cs : List Int) (w : World) (hr : RdB w w.heap.size ao n cs) (hn : n ≤ 1048576) :
    Calls Try.prog 15 #[.slice ao n cap] w (DrawnCE 2 w) := by
  have hb0 : Below w.heap.size w (w.alloc (.cells #[.int .i64 0, .int .i64 0] 25)) := (Below.refl _ _).alloc (Nat.le_refl _) _
  have hR0 : StructAt 25 (w.alloc (.cells #[.int .i64 0, .int .i64 0] 25)) w.heap.size 0 0 := StructAt.new w
  have hr0 := rdB_grow hr hb0
  have hsz : (w.alloc (.cells #[.int .i64 0, .int .i64 0] 25)).heap.size = w.heap.size + 1 := by simp
  have HB := Lib.hid hb0; clear hb0
  have HR := Lib.hid hr0; clear hr0 hr
  have HR0 := Lib.hid hR0; clear hR0
  have HSZ := Lib.hid hsz; clear hsz
  go_enter Try.func15, Try.ntmps15
  go_wp2_with fail
  generalize w.alloc (.cells #[.int .i64 0, .int .i64 0] 25) = w0 at HB HR HR0 HSZ ⊢
  refine (drawIsMissed_any _ _ _ cs _ HR.out hn).mono ?_
  rintro e w5 ⟨wd, pl, v, xs, rfl, o5, hxl, b5⟩
  have R5 := Lib.hid (HR0.out.below b5 HR0.out.lt)
  have hr0 := R5.out.c0
  have hr1 := R5.out.c1
  have hq0 := R5.out.f0 0
  have hq1 := R5.out.f0 1
  have B5 := Lib.hid b5
  have O5 := Lib.hid o5
  have HXL := Lib.hid hxl
  clear b5 o5 hxl
  go_wp2
  have h6 : Below w.heap.size w5 ((w5.setCell ⟨w.heap.size, 0, none⟩ (.int .i64 wd)).setCell ⟨w.heap.size, 1, none⟩ (.int .i64 pl)) := ((Below.refl _ _).setCell (by simp) _).setCell (by simp) _
  have hR6 := (R5.out.set0 wd).set1 pl
  have hd0 := hR6.c0
  have hd1 := hR6.c1
  clear hr0 hr1 hq0 hq1 hR6
  have hlt : w.heap.size < w0.heap.size := by have := HSZ.out; omega
  have hO := own_far (a := .int .i64 wd) (b := .int .i64 pl) O5.out hlt
  exact bodyPost_ret (v := .tuple #[.agg #[.int .i64 wd, .int .i64 pl], v]) (by simp [results, Try.results15, go_sem, hd0, hd1]) rfl ⟨_, _, _, xs, rfl, hO.more (Nat.le_of_lt hlt), HXL.out, (below_two HB.out B5.out).trans h6⟩

/-- At every list that is drawn the program's answer is the model's. -/
theorem found_same {wd pl : Int} {xs : List Int} (h : (xs.length : Int) ≤ 62 ∨ xs.length ≤ 9000 ∧ ∀ x ∈ xs, x = 0) : isFoundI wd pl xs = isFound wd pl xs ∧ xs.length ≤ 9000 := by
  rcases h with h | ⟨h1, h2⟩
  · exact ⟨isFound_same (by omega), by omega⟩
  · refine ⟨isFound_zero ?_, h1⟩
    have e : xs = List.replicate xs.length 0 := List.eq_replicate_iff.2 ⟨rfl, h2⟩
    rw [e, weight_zeros]
end Go.Proofs.Ytfmbefmiglpijaa
