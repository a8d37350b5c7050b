/-
  Chapter 14: images as texts: the digits' table.
-/
import Derived.Test.YtljdkckoelgkbaaOneB
import Derived.Test.YtljdkckoelgkbaaIm0
import Derived.BigRegion
import Derived.BigQuiet
namespace Go.Proofs.Ytljdkckoelgkbaa
open Go.RowKit

def hexNat (q : Nat) : Nat := ((⟨#[48, 49, 50, 51, 52, 53, 54, 55, 56, 57, 97, 98, 99, 100, 101, 102]⟩ : ByteArray)[q]?.getD 0).toNat
theorem hexNat_of : ∀ q, q < 16 → ((hexNat q : Nat) : Int) = hexOf (q : Int) := by decide
theorem hex_at (q : Nat) (hq : q < 16) (w : World) : (Instr.index 9 (.string ⟨#[48, 49, 50, 51, 52, 53, 54, 55, 56, 57, 97, 98, 99, 100, 101, 102]⟩) (.int .i64 (q : Int))).run Try.prog w = .ok (.int .u8 (hexOf (q : Int))) w := by
  have hs : (⟨#[48, 49, 50, 51, 52, 53, 54, 55, 56, 57, 97, 98, 99, 100, 101, 102]⟩ : ByteArray).size = 16 := rfl
  rw [← hexNat_of q hq]
  unfold hexNat
  generalize (⟨#[48, 49, 50, 51, 52, 53, 54, 55, 56, 57, 97, 98, 99, 100, 101, 102]⟩ : ByteArray) = s at hs ⊢
  have hi : 0 ≤ (q : Int) ∧ (q : Int) < (s.size : Int) := by rw [hs]; omega
  have h2 : q < s.size := by rw [hs]; omega
  rw [run_index_string w _ s _ _ Try.underlying9, dif_pos hi]
  simp only [Int.toNat_natCast, ByteArray.getElem?_lt' _ _ h2, Option.getD_some]
/-- A byte's two digits. -/
theorem byte_halves {x : Int} (h : 0 ≤ x ∧ x ≤ 255) : ∃ q r : Nat, x = 16 * (q : Int) + (r : Int) ∧ q < 16 ∧ r < 16 ∧ x / 16 = (q : Int) ∧ x % 16 = (r : Int) :=
  ⟨(x / 16).toNat, (x % 16).toNat, by omega, by omega, by omega, by omega, by omega⟩
section
variable {P : Program} {E T : Nat} (w : World) {ops : Array Oper} {rest : List Oper} {o : Oper} {a : Act} {Q : Exit → Act → World → Prop}
/-- 'append(out, x, y)' of two bytes onto a slice of the call's own, as an operation by itself. -/
theorem app_byte2 {K : Act → World → Prop} (s x : Operand)
    (ho : o.op = .call { callee := .builtin .append, args := #[s, x], argTypes := #[T, T] })
    (base : Nat) (ht : P.underlying T = some (.slice E)) (hi : InfoU8 P E)
    (v : Value) (xs : List Int) (hs : a.eval s = v) (hown : OwnK .u8 E w base v xs) (b : Nat) (y z : Int) (c : Nat) (hx : a.eval x = .slice (some ⟨b, 0, none⟩) 2 c) (hc : w.cell? ⟨b, 0, none⟩ = some (.int .u8 y)) (hc2 : w.cell? ⟨b, 1, none⟩ = some (.int .u8 z))
    (hlen : xs.length ≤ 4294967296) (hbase : base ≤ w.heap.size)
    (h : ∀ v' w', OwnK .u8 E w' base v' (xs ++ [y, z]) → Below base w w' → K (a.put o.dst v') w') : o.wp P a w K Q := by
  obtain ⟨i0, hi, hz0, hz1, hz2⟩ := info_parts hi
  refine wp_append_own w s x T ho base E i0 (.int .u8 0) 1 1 ht hi hz0 hz1 hz2 rfl (by decide) v xs.length _ hs hown ⟨b, 0, none⟩ 2 c [.int .u8 y, .int .u8 z] hx rfl ?_ ?_ (by unfold maxLen; omega) (by omega) hbase ?_
  · intro j u hj
    match j, hj with
    | 0, hj => simp at hj; subst hj; simpa [Addr.add] using hc
    | 1, hj => simp at hj; subst hj; simpa [Addr.add] using hc2
  · intro u hu; simp at hu; rcases hu with rfl | rfl <;> rfl
  · intro v' w' h1 h2 _
    refine h v' w' ?_ ((Below.refl _ _).grown h2 hbase fun k hk => (hown.block k hk).1)
    unfold OwnK
    simpa using h1
/-- 'make([]byte, n, m)'. -/
theorem make_bytes_cap (hg : o.guard = none) (l c : Operand) (hop : o.op = Op.makeSlice T l c) (base : Nat) (ht : P.underlying T = some (.slice E)) (hi : InfoU8 P E)
    (kl kc : IntKind) (L C : Int) (n m : Nat) (hl : a.eval l = .int kl L) (hc : a.eval c = .int kc C) (hL : L = (n : Int)) (hC : C = (m : Int)) (hnm : n ≤ m) (hm : m ≤ 4294967296) (hb : base ≤ w.heap.size)
    (hK : ∀ w', OwnK .u8 E w' base (.slice (some ⟨w.heap.size, 0, none⟩) n m) (List.replicate n 0) → Below base w w' → wpList P ops Q rest (a.put o.dst (.slice (some ⟨w.heap.size, 0, none⟩) n m)) w') :
    wpList P ops Q (o :: rest) a w := by
  obtain ⟨i0, hi, hz0, hz1, hz2⟩ := info_parts hi
  refine wpList_plain hg fun K hK' => ?_
  subst hL
  subst hC
  have hrun := run_make (P := P) w T E i0 (.int .u8 0) ht hi hz0 kl kc (n : Int) (m : Int) (by omega) (by omega) (by rw [hz2]; omega) (by omega)
  simp only [Int.toNat_natCast] at hrun
  unfold Oper.wp
  simp [execOp, hop, hl, hc, hrun, Result.andThen]
  refine hK' _ _ (hK _ ?_ ((Below.refl _ _).alloc hb _))
  refine ⟨by simp, .inr ⟨w.heap.size, m, _, ?_, hb, heap_alloc_new w _, by simpa using hnm, by unfold maxLen; omega, by rw [size_madeCells, hz1], ?_⟩⟩
  · simp
  · rw [hz1, show (Value.int .u8 0).cells = #[Value.int .u8 0] from rfl, toList_madeCells_one, List.length_replicate, Nat.mul_one, Nat.mul_one, List.take_replicate, Nat.min_eq_left hnm, List.map_replicate]
end
end Go.Proofs.Ytljdkckoelgkbaa
