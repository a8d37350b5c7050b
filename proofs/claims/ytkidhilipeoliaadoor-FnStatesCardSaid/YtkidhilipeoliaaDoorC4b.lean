/-
  Chapter 4: TimeBetween on both sides.
-/
import Derived.Test.YtkidhilipeoliaaDoorC4a
import Derived.Deep.RegionHeld3
import Derived.Deep.DeepCutAuto
namespace Go.Proofs.YtkidhilipeoliaaDoor
open Go.RowKit

/-- What TimeBetween answers. -/
def timeOf (t m r s k t' m' r' s' k' : Int) : Int × Int := if isState t m r s k = false ∨ isState t' m' r' s' k' = false then (0, 1) else (timeBetween t t', 0)
theorem to_1 {t m r s k t' m' r' s' k' : Int} (h : isState t m r s k = false) : timeOf t m r s k t' m' r' s' k' = (0, 1) := by simp [timeOf, h]
theorem to_2 {t m r s k t' m' r' s' k' : Int} (h : isState t' m' r' s' k' = false) : timeOf t m r s k t' m' r' s' k' = (0, 1) := by simp [timeOf, h]
theorem to_0 {t m r s k t' m' r' s' k' : Int} (h : isState t m r s k = true) (h' : isState t' m' r' s' k' = true) : timeOf t m r s k t' m' r' s' k' = (timeBetween t t', 0) := by simp [timeOf, h, h']
theorem wrap_i16 (n : Int) : IntKind.i16.wrap n = (n + 32768) % 65536 - 32768 := by
  simp [IntKind.wrap, IntKind.signed, IntKind.bits]
  omega
theorem time_wrap {t t' : Int} (_h0 : 0 ≤ t) (_h1 : t ≤ 65535) (_h2 : 0 ≤ t') (_h3 : t' ≤ 65535) : IntKind.i16.wrap (t' - t) = timeBetween t t' := by
  rw [wrap_i16]
  unfold timeBetween
  split <;> omega
theorem ret_two {a b c d : Int} (h : a = b) (k : c = d) : Ending.returned (.tuple #[.int .i64 a, .int .i64 c]) = .returned (.tuple #[.int .i64 b, .int .i64 d]) := by rw [h, k]
def TimeLeft (w : World) (q : Int × Int) (e : Ending) (w' : World) : Prop := e = .returned (.tuple #[.int .i64 q.1, .int .i64 q.2]) ∧ Below w.heap.size w w'
end Go.Proofs.YtkidhilipeoliaaDoor
