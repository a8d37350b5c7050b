/-
  The law laws.FnExactScheduleBytes returns true at every input, and every argument reads afterwards as before: FnExactScheduleBytesSaid, without conditions.
-/
import Derived.Test.YtljdkckoelgkbaaGreatFnExactScheduleBytesW
import Derived.Test.YtljdkckoelgkbaaGreatRows
import Derived.Test.YtljdkckoelgkbaaGreatPxA
import Derived.Test.YtljdkckoelgkbaaGreatPxM
import Derived.Test.YtljdkckoelgkbaaGreatPxN
import Derived.Test.YtljdkckoelgkbaaGreatPxS
import Derived.Test.YtljdkckoelgkbaaGreatPxL
import Derived.Test.YtljdkckoelgkbaaGreatPxZ
import Derived.Test.YtljdkckoelgkbaaGreatPxI
import Derived.Test.YtljdkckoelgkbaaGreatPxT
import Derived.Test.YtljdkckoelgkbaaGreatPxK
import Derived.Test.YtljdkckoelgkbaaGreatPxB
import Derived.WalkKit
import Derived.ProofKit
import Derived.OpenShut
import Derived.ShutString
import Derived.ChangeOld
import Derived.Below
import Derived.Lib.SmallJoins
namespace Go.Proofs.YtljdkckoelgkbaaGreat.fnExactScheduleBytes
open Go.ChangeShapes Go.WideShapes Go.ChangeAt Go.RowKit Go.Joins
open Go.ChangeMaps (open_string shut_string)
set_option linter.unusedVariables false
theorem own : ownKnob Tryz.prog.godebug = none := by kernel_rfl
theorem laidOut : laidOutB Tryz.prog = true := by kernel_rfl
set_option maxRecDepth 100000 in
theorem lifted (os : Os) (started : os.Started) (H : Type) (enc : TypeId × Value → H) :
    ReturnsInHanded {} Tryz.checked os 5 .any (Rows.fnExactScheduleBytesSpec.pre6 enc Tryz.prog Tryz.f5 Rows.fnExactScheduleBytesRow.domain false) (Rows.fnExactScheduleBytesSpec.post enc Tryz.prog Tryz.f5 false true false false) := by
  refine returnsInHanded_of_change (C := Tryz.checked) own started (by kernel_rfl) Tryz.func5
    (ChangeSpec.witness6 (enc := enc) (C := Tryz.checked) false ⟨#[], #[.agg #[.int .i64 0, .slice none 0 0, .slice none 0 0, .slice none 0 0]], []⟩ 8 (by kernel_rfl) (by kernel_rfl) (by kernel_rfl) (by kernel_rfl)) ?_
  intro W base args ds gs before hval0 hW hcnd _
  have hval : ∀ (j : Nat) t v, Tryz.f5.params[j]? = some t → args[j]? = some v → Value.okWide Tryz.prog W .any base t v := hval0
  have hW' := hW
  obtain ⟨p, q, hA0, hV, rfl, hfz, hnd⟩ := hW
  have hA : DataW.TrodAll enc Tryz.prog W 0 (fun _ => true) true Tryz.f5.params.toList args.toList ds p := hA0
  rw [Tryz.params5] at hA hval
  obtain ⟨v0, vs0, d0, ds0, p0, q0, hargs, rfl, rfl, h0, r0⟩ := trodAll_cons hA
  obtain ⟨rfl, rfl, rfl⟩ := trodAll_nil r0
  obtain rfl : args = #[v0] := by cases args; simp_all
  obtain ⟨rfl, rfl⟩ := trodVars_none hV
  have k0 := h0
  have lt0 : ∀ x ∈ p0, x.block < W.heap.size := by obtain ⟨m, hm⟩ := k0; exact DataW.trod_lt m _ _ _ hm
  obtain ⟨u0, rfl, w0⟩ := open_me Tryz.underlying50 Tryz.underlying2 (by kernel_rfl) (by kernel_rfl) (by kernel_rfl) (by kernel_rfl) (by kernel_rfl) (by decide)
    (fun hf => open_nds Tryz.underlying46 Tryz.underlying135 Tryz.underlying2 Tryz.underlying9 Tryz.underlying4 (by kernel_rfl) (by kernel_rfl) (by kernel_rfl) (by kernel_rfl) (by decide) hf)
    (fun hf => open_mds Tryz.underlying47 Tryz.underlying137 Tryz.underlying2 Tryz.underlying35 (by kernel_rfl) (by kernel_rfl) (by kernel_rfl) (by decide) hf)
    (fun hf => open_sls Tryz.underlying48 Tryz.underlying146 Tryz.underlying144 Tryz.underlying2 Tryz.underlying4 (by kernel_rfl) (by kernel_rfl) (by kernel_rfl) (by kernel_rfl) (by decide) (by decide) hf)
    (hval 0 50 v0 rfl rfl) h0
  clear hA0 hval0
  refine (walk u0 W w0).mono fun e W' ⟨he, bel⟩ => ?_
  subst he
  exact ⟨_, rfl, _, _, _, [], _, [], hW', trodAll_mk1 (shut_bool Tryz.underlying4 _), (trodAll_cons_mk (Below.trod laidOut (by kernel_rfl) (of_decide_eq_true (by kernel_rfl)) k0 bel lt0) trodAll_mk0), rfl, bel.frame _, fun h => by cases h⟩

theorem and_tt {a b : Bool} (h1 : a = true) (h2 : b = true) : (a && b) = true := by rw [h1, h2]; rfl
set_option maxHeartbeats 4000000 in
theorem joined : joinedFacts Tryz.prog 5 Tryz.f5 Rows.fnExactScheduleBytesSpec Rows.fnExactScheduleBytesRow = true := by
  unfold joinedFacts
  repeat' (with_reducible refine and_tt ?_ ?_)
  all_goals (as_aux_lemma => kernel_rfl)
theorem over : Rows.fnExactScheduleBytesRow.holds Tryz.pinned (OpenSpec.ofChange Rows.fnExactScheduleBytesSpec) :=
  OpenClaim.holds_of_wide 5 Tryz.f5 rfl rfl rfl rfl rfl rfl rfl ⟨rfl, rfl, rfl, rfl, rfl⟩ rfl rfl rfl rfl rfl (by kernel_rfl) Tryz.func5 joined
    (of_decide_eq_true (by kernel_rfl)) (by unfold Func.isWrapper; first | (rw [if_pos (by decide +kernel)]; kernel_rfl) | (rw [if_neg (by decide +kernel)]; exact ⟨rfl, rfl⟩))
    (fun os started H enc _ => lifted os started H enc)

/-- The statement. -/
theorem proved : Rows.FnExactScheduleBytesSaid := over
#print axioms proved
end Go.Proofs.YtljdkckoelgkbaaGreat.fnExactScheduleBytes
