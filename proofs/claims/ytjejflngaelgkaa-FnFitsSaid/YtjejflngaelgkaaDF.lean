/-
  Chapter 8: two descriptors compared.
-/
import Derived.Test.YtjejflngaelgkaaD1
import Derived.Laws.StructEq
namespace Go.Proofs.Ytjejflngaelgkaa
open Go.RowKit

theorem desc_in_self (n a z u : Int) (c : Bool) (w : World) : (Op.equalIn 10000 25 (.agg #[.int .i64 n, .int .i64 a, .int .i64 z, .int .i64 u, .bool c]) (.agg #[.int .i64 n, .int .i64 a, .int .i64 z, .int .i64 u, .bool c])).run Try.prog w = .ok true w := by
  rw [run_equalIn_agg w 9999 _ _ _ (by kernel_rfl) (by kernel_rfl)]
  have hp : Try.prog.stoodInHeld 2 = false := by kernel_rfl
  have hq : Try.prog.stoodInHeld 4 = false := by kernel_rfl
  simp only [Program.fieldsOf, Try.underlying25, Op.eqFields]
  simp [go_sem]
theorem desc_neq_self (n a z u : Int) (c : Bool) (w : World) : (binOp .neq 25 (.agg #[.int .i64 n, .int .i64 a, .int .i64 z, .int .i64 u, .bool c]) (.agg #[.int .i64 n, .int .i64 a, .int .i64 z, .int .i64 u, .bool c])).run Try.prog w = .ok (.bool false) w := by
  rw [run_neq_struct, desc_in_self]; rfl
theorem desc_eql_self (n a z u : Int) (c : Bool) (w : World) : (binOp .eql 25 (.agg #[.int .i64 n, .int .i64 a, .int .i64 z, .int .i64 u, .bool c]) (.agg #[.int .i64 n, .int .i64 a, .int .i64 z, .int .i64 u, .bool c])).run Try.prog w = .ok (.bool true) w := by
  rw [run_eql_struct, desc_in_self]; rfl
end Go.Proofs.Ytjejflngaelgkaa
