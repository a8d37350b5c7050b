/-
  Chapter 6: the kinds of frames, of the program and of its model.
-/
import Derived.Test.YtnblbemkpojjdaaFr1
import Derived.Test.YtnblbemkpojjdaaOne
import Derived.Test.YtnblbemkpojjdaaFourA
namespace Go.Proofs.Ytnblbemkpojjdaa
open Go.RowKit

/-- The value of a kind. -/
def kindVal (a : Int) : Value := if a = 0 then .iface 86 (.agg #[]) else if a = 1 then .iface 87 (.agg #[]) else if a = 2 then .iface 88 (.agg #[]) else if a = 3 then .iface 89 (.agg #[]) else .nilIface
theorem kindVal_none {a : Int} (h0 : a ≠ 0) (h1 : a ≠ 1) (h2 : a ≠ 2) (h3 : a ≠ 3) : kindVal a = .nilIface := by simp [kindVal, h0, h1, h2, h3]
theorem kindOk_none {a : Int} (h0 : a ≠ 0) (h1 : a ≠ 1) (h2 : a ≠ 2) (h3 : a ≠ 3) : kindOk a = false := by
  cases h : kindOk a
  · rfl
  · have := kindOk_four h; omega
theorem frameKindOf_any (a : Int) (w : World) : Calls Try.prog 44 #[.int .i64 a] w fun e w' => e = .returned (.tuple #[kindVal a, .bool (kindOk a)]) ∧ w = w' := by
  by_cases h0 : a = 0
  · subst h0
    go_enter Try.func44, Try.ntmps44
    go_wp2
    go_ret2
    exact ⟨rfl, rfl⟩
  by_cases h1 : a = 1
  · subst h1
    go_enter Try.func44, Try.ntmps44
    go_wp2
    go_ret2
    exact ⟨rfl, rfl⟩
  by_cases h2 : a = 2
  · subst h2
    go_enter Try.func44, Try.ntmps44
    go_wp2
    go_ret2
    exact ⟨rfl, rfl⟩
  by_cases h3 : a = 3
  · subst h3
    go_enter Try.func44, Try.ntmps44
    go_wp2
    go_ret2
    exact ⟨rfl, rfl⟩
  rw [kindVal_none h0 h1 h2 h3, kindOk_none h0 h1 h2 h3]
  have t0 : (a == 0) = false := by simp [h0]
  have t1 : (a == 1) = false := by simp [h1]
  have t2 : (a == 2) = false := by simp [h2]
  have t3 : (a == 3) = false := by simp [h3]
  clear h0 h1 h2 h3
  go_enter Try.func44, Try.ntmps44
  go_wp2
  go_ret2
  exact ⟨rfl, rfl⟩
theorem layoutOf_any (a : Int) (w : World) : Calls Try.prog 55 #[kindVal a] w fun e w' => e = .returned (.tuple #[.bool (hasState a), .bool (hasData a)]) ∧ w = w' := by
  by_cases h0 : a = 0
  · subst h0
    have q0 : ∀ w : World, (Instr.typeAssert (.iface 86 (.agg #[])) 63 86 true).run Try.prog w = .ok (.tuple #[.agg #[], .bool true]) w := fun _ => by kernel_rfl
    have q1 : ∀ w : World, (Instr.typeAssert (.iface 86 (.agg #[])) 63 87 true).run Try.prog w = .ok (.tuple #[.agg #[], .bool false]) w := fun _ => by kernel_rfl
    have q2 : ∀ w : World, (Instr.typeAssert (.iface 86 (.agg #[])) 63 88 true).run Try.prog w = .ok (.tuple #[.agg #[], .bool false]) w := fun _ => by kernel_rfl
    have q3 : ∀ w : World, (Instr.typeAssert (.iface 86 (.agg #[])) 63 89 true).run Try.prog w = .ok (.tuple #[.agg #[], .bool false]) w := fun _ => by kernel_rfl
    rw [show kindVal 0 = .iface 86 (.agg #[]) from rfl]
    go_enter Try.func55, Try.ntmps55
    go_wp2
    go_ret2
    exact ⟨rfl, rfl⟩
  by_cases h1 : a = 1
  · subst h1
    have q0 : ∀ w : World, (Instr.typeAssert (.iface 87 (.agg #[])) 63 86 true).run Try.prog w = .ok (.tuple #[.agg #[], .bool false]) w := fun _ => by kernel_rfl
    have q1 : ∀ w : World, (Instr.typeAssert (.iface 87 (.agg #[])) 63 87 true).run Try.prog w = .ok (.tuple #[.agg #[], .bool true]) w := fun _ => by kernel_rfl
    have q2 : ∀ w : World, (Instr.typeAssert (.iface 87 (.agg #[])) 63 88 true).run Try.prog w = .ok (.tuple #[.agg #[], .bool false]) w := fun _ => by kernel_rfl
    have q3 : ∀ w : World, (Instr.typeAssert (.iface 87 (.agg #[])) 63 89 true).run Try.prog w = .ok (.tuple #[.agg #[], .bool false]) w := fun _ => by kernel_rfl
    rw [show kindVal 1 = .iface 87 (.agg #[]) from rfl]
    go_enter Try.func55, Try.ntmps55
    go_wp2
    go_ret2
    exact ⟨rfl, rfl⟩
  by_cases h2 : a = 2
  · subst h2
    have q0 : ∀ w : World, (Instr.typeAssert (.iface 88 (.agg #[])) 63 86 true).run Try.prog w = .ok (.tuple #[.agg #[], .bool false]) w := fun _ => by kernel_rfl
    have q1 : ∀ w : World, (Instr.typeAssert (.iface 88 (.agg #[])) 63 87 true).run Try.prog w = .ok (.tuple #[.agg #[], .bool false]) w := fun _ => by kernel_rfl
    have q2 : ∀ w : World, (Instr.typeAssert (.iface 88 (.agg #[])) 63 88 true).run Try.prog w = .ok (.tuple #[.agg #[], .bool true]) w := fun _ => by kernel_rfl
    have q3 : ∀ w : World, (Instr.typeAssert (.iface 88 (.agg #[])) 63 89 true).run Try.prog w = .ok (.tuple #[.agg #[], .bool false]) w := fun _ => by kernel_rfl
    rw [show kindVal 2 = .iface 88 (.agg #[]) from rfl]
    go_enter Try.func55, Try.ntmps55
    go_wp2
    go_ret2
    exact ⟨rfl, rfl⟩
  by_cases h3 : a = 3
  · subst h3
    have q0 : ∀ w : World, (Instr.typeAssert (.iface 89 (.agg #[])) 63 86 true).run Try.prog w = .ok (.tuple #[.agg #[], .bool false]) w := fun _ => by kernel_rfl
    have q1 : ∀ w : World, (Instr.typeAssert (.iface 89 (.agg #[])) 63 87 true).run Try.prog w = .ok (.tuple #[.agg #[], .bool false]) w := fun _ => by kernel_rfl
    have q2 : ∀ w : World, (Instr.typeAssert (.iface 89 (.agg #[])) 63 88 true).run Try.prog w = .ok (.tuple #[.agg #[], .bool false]) w := fun _ => by kernel_rfl
    have q3 : ∀ w : World, (Instr.typeAssert (.iface 89 (.agg #[])) 63 89 true).run Try.prog w = .ok (.tuple #[.agg #[], .bool true]) w := fun _ => by kernel_rfl
    rw [show kindVal 3 = .iface 89 (.agg #[]) from rfl]
    go_enter Try.func55, Try.ntmps55
    go_wp2
    go_ret2
    exact ⟨rfl, rfl⟩
  rw [kindVal_none h0 h1 h2 h3]
  have e1 : hasState a = false := by simp [hasState, kindOk_none h0 h1 h2 h3]
  have e2 : hasData a = false := by simp [hasData, h0, h2]
  rw [e1, e2]
  clear h0 h1 h2 h3
  have q0 : ∀ w : World, (Instr.typeAssert .nilIface 63 86 true).run Try.prog w = .ok (.tuple #[.agg #[], .bool false]) w := fun _ => by kernel_rfl
  have q1 : ∀ w : World, (Instr.typeAssert .nilIface 63 87 true).run Try.prog w = .ok (.tuple #[.agg #[], .bool false]) w := fun _ => by kernel_rfl
  have q2 : ∀ w : World, (Instr.typeAssert .nilIface 63 88 true).run Try.prog w = .ok (.tuple #[.agg #[], .bool false]) w := fun _ => by kernel_rfl
  have q3 : ∀ w : World, (Instr.typeAssert .nilIface 63 89 true).run Try.prog w = .ok (.tuple #[.agg #[], .bool false]) w := fun _ => by kernel_rfl
  go_enter Try.func55, Try.ntmps55
  go_wp2
  go_ret2
  exact ⟨rfl, rfl⟩
end Go.Proofs.Ytnblbemkpojjdaa
