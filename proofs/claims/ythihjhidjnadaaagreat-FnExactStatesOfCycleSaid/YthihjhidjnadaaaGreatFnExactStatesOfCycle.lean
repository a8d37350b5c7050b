/-
  The law laws.FnExactStatesOfCycle returns true at every input, and every argument reads afterwards as before: FnExactStatesOfCycleSaid, without conditions.
-/
import Derived.Test.YthihjhidjnadaaaGreatFnExactStatesOfCycleW
import Derived.Test.YthihjhidjnadaaaGreatRows
import Derived.Test.YthihjhidjnadaaaGreatP26A
import Derived.Test.YthihjhidjnadaaaGreatP26M
import Derived.Test.YthihjhidjnadaaaGreatP26N
import Derived.Test.YthihjhidjnadaaaGreatP26S
import Derived.Test.YthihjhidjnadaaaGreatP26L
import Derived.Test.YthihjhidjnadaaaGreatP26Z
import Derived.Test.YthihjhidjnadaaaGreatP26I
import Derived.Test.YthihjhidjnadaaaGreatP26U
import Derived.Test.YthihjhidjnadaaaGreatP26Y
import Derived.Test.YthihjhidjnadaaaGreatP26T
import Derived.Test.YthihjhidjnadaaaGreatP26X
import Derived.Test.YthihjhidjnadaaaGreatP26V
import Derived.Test.YthihjhidjnadaaaGreatP26W
import Derived.Test.YthihjhidjnadaaaGreatP26O
import Derived.WalkKit
import Derived.ProofKit
import Derived.OpenShut
import Derived.ShutString
import Derived.ChangeOld
import Derived.Below
import Derived.Lib.SmallJoins
namespace Go.Proofs.YthihjhidjnadaaaGreat.fnExactStatesOfCycle
open Go.ChangeShapes Go.WideShapes Go.ChangeAt Go.RowKit Go.Joins
open Go.ChangeMaps (open_string shut_string)
set_option linter.unusedVariables false
theorem own : ownKnob Tryz.prog.godebug = none := by kernel_rfl
theorem laidOut : laidOutB Tryz.prog = true := by kernel_rfl
set_option maxRecDepth 100000 in
theorem lifted (os : Os) (started : os.Started) (H : Type) (enc : TypeId × Value → H) :
    ReturnsInHanded {} Tryz.checked os 8 .any (Rows.fnExactStatesOfCycleSpec.pre6 enc Tryz.prog Tryz.f8 Rows.fnExactStatesOfCycleRow.domain false) (Rows.fnExactStatesOfCycleSpec.post enc Tryz.prog Tryz.f8 false true false false) := by
  refine returnsInHanded_of_change (C := Tryz.checked) own started (by kernel_rfl) Tryz.func8
    (ChangeSpec.witness6 (enc := enc) (C := Tryz.checked) false ⟨#[], #[.agg #[.int .i64 0, .slice none 0 0, .slice none 0 0, .slice none 0 0], .agg #[.int .i64 0, .int .i64 0, .int .i64 0, .int .i64 0, .int .i64 0]], []⟩ 8 (by kernel_rfl) (by kernel_rfl) (by kernel_rfl) (by kernel_rfl)) ?_
  intro W base args ds gs before hval0 hW hcnd _
  have hval : ∀ (j : Nat) t v, Tryz.f8.params[j]? = some t → args[j]? = some v → Value.okWide Tryz.prog W .any base t v := hval0
  have hW' := hW
  obtain ⟨p, q, hA0, hV, rfl, hfz, hnd⟩ := hW
  have hA : DataW.TrodAll enc Tryz.prog W 0 (fun _ => true) true Tryz.f8.params.toList args.toList ds p := hA0
  rw [Tryz.params8] at hA hval
  obtain ⟨v0, vs0, d0, ds0, p0, q0, hargs, rfl, rfl, h0, r0⟩ := trodAll_cons hA
  obtain ⟨v1, vs1, d1, ds1, p1, q1, rfl, rfl, rfl, h1, r1⟩ := trodAll_cons r0
  obtain ⟨rfl, rfl, rfl⟩ := trodAll_nil r1
  obtain rfl : args = #[v0, v1] := by cases args; simp_all
  obtain ⟨rfl, rfl⟩ := trodVars_none hV
  have k0 := h0
  have lt0 : ∀ x ∈ p0, x.block < W.heap.size := by obtain ⟨m, hm⟩ := k0; exact DataW.trod_lt m _ _ _ hm
  obtain ⟨u0, rfl, w0⟩ := open_me Tryz.underlying75 Tryz.underlying2 (by kernel_rfl) (by kernel_rfl) (by kernel_rfl) (by kernel_rfl) (by kernel_rfl) (by decide)
    (fun hf => open_nds Tryz.underlying71 Tryz.underlying190 Tryz.underlying2 Tryz.underlying9 Tryz.underlying4 (by kernel_rfl) (by kernel_rfl) (by kernel_rfl) (by kernel_rfl) (by decide) hf)
    (fun hf => open_mds Tryz.underlying72 Tryz.underlying192 Tryz.underlying2 Tryz.underlying53 (by kernel_rfl) (by kernel_rfl) (by kernel_rfl) (by decide) hf)
    (fun hf => open_sls Tryz.underlying73 Tryz.underlying198 Tryz.underlying196 Tryz.underlying2 Tryz.underlying4 (by kernel_rfl) (by kernel_rfl) (by kernel_rfl) (by kernel_rfl) (by decide) (by decide) hf)
    (hval 0 75 v0 rfl rfl) h0
  have k1 := h1
  have lt1 : ∀ x ∈ p1, x.block < W.heap.size := by obtain ⟨m, hm⟩ := k1; exact DataW.trod_lt m _ _ _ hm
  obtain ⟨s1_0, s1_1, s1_2, s1_3, s1_4, rfl, rfl, w1_0, w1_1, w1_2, w1_3, w1_4⟩ := open_five Tryz.underlying76 Tryz.underlying2 (by kernel_rfl) (by kernel_rfl) (by decide) (hval 1 76 v1 rfl rfl) h1
  clear hA0 hval0
  refine (walk u0 s1_0 s1_1 s1_2 s1_3 s1_4 W w0 w1_0 w1_1 w1_2 w1_3 w1_4).mono fun e W' ⟨he, bel⟩ => ?_
  subst he
  exact ⟨_, rfl, _, _, _, [], _, [], hW', trodAll_mk1 (shut_bool Tryz.underlying4 _), (trodAll_cons_mk (Below.trod laidOut (by kernel_rfl) (of_decide_eq_true (by kernel_rfl)) k0 bel lt0) (trodAll_cons_mk (Below.trod laidOut (by kernel_rfl) (of_decide_eq_true (by kernel_rfl)) k1 bel lt1) trodAll_mk0)), rfl, bel.frame _, fun h => by cases h⟩

theorem and_tt {a b : Bool} (h1 : a = true) (h2 : b = true) : (a && b) = true := by rw [h1, h2]; rfl
set_option maxHeartbeats 4000000 in
theorem joined : joinedFacts Tryz.prog 8 Tryz.f8 Rows.fnExactStatesOfCycleSpec Rows.fnExactStatesOfCycleRow = true := by
  unfold joinedFacts
  repeat' (with_reducible refine and_tt ?_ ?_)
  all_goals (as_aux_lemma => kernel_rfl)
theorem over : Rows.fnExactStatesOfCycleRow.holds Tryz.pinned (OpenSpec.ofChange Rows.fnExactStatesOfCycleSpec) :=
  OpenClaim.holds_of_wide 8 Tryz.f8 rfl rfl rfl rfl rfl rfl rfl ⟨rfl, rfl, rfl, rfl, rfl⟩ rfl rfl rfl rfl rfl (by kernel_rfl) Tryz.func8 joined
    (of_decide_eq_true (by kernel_rfl)) (by unfold Func.isWrapper; first | (rw [if_pos (by decide +kernel)]; kernel_rfl) | (rw [if_neg (by decide +kernel)]; exact ⟨rfl, rfl⟩))
    (fun os started H enc _ => lifted os started H enc)

/-- The statement. -/
theorem proved : Rows.FnExactStatesOfCycleSaid := over
#print axioms proved
end Go.Proofs.YthihjhidjnadaaaGreat.fnExactStatesOfCycle
