/-
  Chapter 9: a byte with one bit turned; what FnDamagedBlocks keeps.
-/
import Derived.Test.YtckaknaeddiphaaKF
import Derived.Test.YtckaknaeddiphaaKG
import Derived.Test.YtckaknaeddiphaaBk
import Derived.Test.YtckaknaeddiphaaLawC
import Derived.Test.YtckaknaeddiphaaVecs
namespace Go.Proofs.Ytckaknaeddiphaa
open Go.RowKit

theorem flip_val (x b s : Nat) (hx : x < 256) (hs : s < 8) (hb : b < 2) : bits .xor .i64 (x : Int) (IntKind.i64.wrap ((b : Int) * 2 ^ s)) = ((x ^^^ (b <<< s) : Nat) : Int) := by
  have h1 : b <<< s = b * 2 ^ s := Nat.shiftLeft_eq _ _
  have h2 : (2 : Nat) ^ s ≤ 2 ^ 7 := Nat.pow_le_pow_right (by omega) (by omega)
  have h3 : b * 2 ^ s ≤ 1 * 2 ^ 7 := Nat.mul_le_mul (by omega) h2
  have e : (b : Int) * 2 ^ s = ((b <<< s : Nat) : Int) := by rw [h1]; push_cast; rfl
  have h4 : b <<< s ≤ 128 := by omega
  rw [e, show IntKind.i64.wrap ((b <<< s : Nat) : Int) = ((b <<< s : Nat) : Int) from by rw [IntKind.wrap_i64]; omega]
  exact xor_nat _ _ (by omega) (by omega)
theorem shift_min {s : Nat} (hs : s < 8) : min (IntKind.u64.wrap (s : Int)).toNat 64 = s := by rw [IntKind.wrap_u64]; omega
theorem own_block9 {E base n : Nat} {w : World} {ao : Option Addr} {cap : Nat} {xs : List Int} (h : Own E w base (.slice ao n cap) xs) (hl : 0 < n) : ∃ g, ao = some ⟨g, 0, none⟩ := by
  obtain ⟨ao', cap', e, _, _, _, hg⟩ := h.form
  simp only [Value.slice.injEq] at e
  obtain ⟨rfl, hn, rfl⟩ := e
  rcases hg with hg | ⟨g, rfl, _, _⟩
  · simp at hg
    omega
  · exact ⟨g, rfl⟩
section
variable {E T : Nat} {w0 w : World} {d g N cap : Nat} {ws : List Int} {L : List (Value × List Int)}
theorem HeldD.store (h : HeldD E T w0 w d ((.slice (some ⟨g, 0, none⟩) N cap, ws) :: L)) (hl : ws.length = N) {i : Nat} (hi : i < N) (y : Int) : HeldD E T w0 (w.setCell ⟨g, i, none⟩ (.int .i64 y)) d ((.slice (some ⟨g, 0, none⟩) N cap, ws.set i y) :: L) :=
  h.push [] (own_store (h.get 0 rfl) hl hi y).2.2.1 (grown_setCell w g i _) (.inl rfl)
theorem HeldD.cell (h : HeldD E T w0 w d ((.slice (some ⟨g, 0, none⟩) N cap, ws) :: L)) (hl : ws.length = N) {i : Nat} (hi : i < N) : w.cell? ⟨g, i, none⟩ = some (.int .i64 (ws.getD i 0)) := (own_store (h.get 0 rfl) hl hi 0).1
theorem HeldD.ice (h : HeldD E T w0 w d ((.slice (some ⟨g, 0, none⟩) N cap, ws) :: L)) (hl : ws.length = N) {i : Nat} (hi : i < N) : w.frozen? ⟨g, i, none⟩ = false := (own_store (h.get 0 rfl) hl hi 0).2.1
theorem HeldD.cap_ (h : HeldD E T w0 w d L) (i : Nat) {ao : Option Addr} {n c : Nat} {xs : List Int} (hi : L[i]? = some (.slice ao n c, xs)) : n ≤ c ∧ c ≤ 9223372036854775807 := Own.cap (h.get i hi)
end
end Go.Proofs.Ytckaknaeddiphaa
