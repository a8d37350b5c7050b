/-
  math/bits.OnesCount64 for a number of at most 24 bits: its steps, and the weight of the number's bits. No program is named here.
-/
import Derived.Lib.BitFns
import Derived.Test.YtfmbefmiglpijaaReg
import Derived.Test.YtfmbefmiglpijaaBase
namespace Go.Proofs.Ytfmbefmiglpijaa
open Go.Lib
theorem and_split (a r m s : Nat) (ha : a < 256) (hm : m < 256) : (a + 256 * r) &&& (m + 256 * s) = (a &&& m) + 256 * (r &&& s) := by
  have hlt : a &&& m < 256 := Nat.lt_of_le_of_lt Nat.and_le_left ha
  apply Nat.eq_of_testBit_eq
  intro j
  rw [Nat.testBit_and, Nat.add_comm a, Nat.add_comm m, Nat.add_comm (a &&& m)]
  rw [show 256 * r = 2 ^ 8 * r from rfl, show 256 * s = 2 ^ 8 * s from rfl, show 256 * (r &&& s) = 2 ^ 8 * (r &&& s) from rfl]
  rw [Nat.testBit_two_pow_mul_add _ (show a < 2 ^ 8 from ha), Nat.testBit_two_pow_mul_add _ (show m < 2 ^ 8 from hm), Nat.testBit_two_pow_mul_add _ (show a &&& m < 2 ^ 8 from hlt)]
  split
  · rw [Nat.testBit_and]
  · rw [Nat.testBit_and]
theorem and_three (a b c m s : Nat) (ha : a < 256) (hb : b < 256) (hc : c < 256) (hm : m < 256) : (a + 256 * (b + 256 * c)) &&& (m + 256 * (m + 256 * (m + 256 * s))) = (a &&& m) + 256 * ((b &&& m) + 256 * (c &&& m)) := by
  rw [and_split _ _ _ _ ha hm, and_split _ _ _ _ hb hm]
  have : c &&& (m + 256 * s) = c &&& m := by
    have h := and_split c 0 m s hc hm
    simpa using h
  rw [this]
def t1 (a : Nat) : Nat := (a / 2 &&& 85) + (a &&& 85)
def t2 (a : Nat) : Nat := (a / 4 &&& 51) + (a &&& 51)
def t3 (a : Nat) : Nat := (a + a / 16) % 16
theorem half_mask : ∀ a : Fin 256, ∀ t : Fin 2, (a.val / 2 + 128 * t.val) &&& 85 = a.val / 2 &&& 85 := by decide +kernel
theorem quarter_mask : ∀ a : Fin 256, ∀ t : Fin 4, (a.val / 4 + 64 * t.val) &&& 51 = a.val / 4 &&& 51 := by decide +kernel
theorem t1_lt : ∀ a : Fin 256, t1 a.val < 256 := by decide +kernel
theorem t2_lt : ∀ a : Fin 256, t2 (t1 a.val) < 256 ∧ t2 (t1 a.val) % 16 ≤ 4 ∧ t2 (t1 a.val) / 16 ≤ 4 := by decide +kernel
theorem t3_pop : ∀ a : Fin 256, t3 (t2 (t1 a.val)) = popAux 8 a.val := by decide +kernel
theorem pop8_le : ∀ a : Fin 256, popAux 8 a.val ≤ 8 := by decide +kernel
theorem step1 (a b c : Nat) (ha : a < 256) (hb : b < 256) (hc : c < 256) :
    ((a + 256 * (b + 256 * c)) / 2 &&& 6148914691236517205) + ((a + 256 * (b + 256 * c)) &&& 6148914691236517205) = t1 a + 256 * (t1 b + 256 * t1 c) := by
  rw [show (6148914691236517205 : Nat) = 85 + 256 * (85 + 256 * (85 + 256 * 366503875925)) from rfl, and_three _ _ _ _ _ ha hb hc (by omega)]
  rw [show (a + 256 * (b + 256 * c)) / 2 = (a / 2 + 128 * (b % 2)) + 256 * ((b / 2 + 128 * (c % 2)) + 256 * (c / 2)) from by omega]
  rw [and_three _ _ _ _ _ (by omega) (by omega) (by omega) (by omega)]
  have h1 := half_mask ⟨a, ha⟩ ⟨b % 2, by omega⟩
  have h2 := half_mask ⟨b, hb⟩ ⟨c % 2, by omega⟩
  simp only at h1 h2
  rw [h1, h2]
  unfold t1
  omega
theorem step2 (a b c : Nat) (ha : a < 256) (hb : b < 256) (hc : c < 256) :
    ((a + 256 * (b + 256 * c)) / 4 &&& 3689348814741910323) + ((a + 256 * (b + 256 * c)) &&& 3689348814741910323) = t2 a + 256 * (t2 b + 256 * t2 c) := by
  rw [show (3689348814741910323 : Nat) = 51 + 256 * (51 + 256 * (51 + 256 * 219902325555)) from rfl, and_three _ _ _ _ _ ha hb hc (by omega)]
  rw [show (a + 256 * (b + 256 * c)) / 4 = (a / 4 + 64 * (b % 4)) + 256 * ((b / 4 + 64 * (c % 4)) + 256 * (c / 4)) from by omega]
  rw [and_three _ _ _ _ _ (by omega) (by omega) (by omega) (by omega)]
  have h1 := quarter_mask ⟨a, ha⟩ ⟨b % 4, by omega⟩
  have h2 := quarter_mask ⟨b, hb⟩ ⟨c % 4, by omega⟩
  simp only at h1 h2
  rw [h1, h2]
  unfold t2
  omega
theorem and15 (a : Nat) : a &&& 15 = a % 16 := Nat.and_two_pow_sub_one_eq_mod a 4
theorem step3 (a b c : Nat) (ha : a < 256 ∧ a % 16 ≤ 4 ∧ a / 16 ≤ 4) (hb : b < 256 ∧ b % 16 ≤ 4 ∧ b / 16 ≤ 4) (hc : c < 256 ∧ c % 16 ≤ 4 ∧ c / 16 ≤ 4) :
    ((a + 256 * (b + 256 * c)) / 16 + (a + 256 * (b + 256 * c))) &&& 1085102592571150095 = t3 a + 256 * (t3 b + 256 * t3 c) := by
  rw [show (1085102592571150095 : Nat) = 15 + 256 * (15 + 256 * (15 + 256 * 64677154575)) from rfl]
  rw [show (a + 256 * (b + 256 * c)) / 16 + (a + 256 * (b + 256 * c)) = (a + a / 16 + 16 * (b % 16)) + 256 * ((b + b / 16 + 16 * (c % 16)) + 256 * (c + c / 16)) from by omega]
  rw [and_three _ _ _ _ _ (by omega) (by omega) (by omega) (by omega), and15, and15, and15]
  unfold t3
  omega
theorem popAux_add (n k : Nat) (v : Nat) : popAux (n + k) v = popAux n (v % 2 ^ n) + popAux k (v / 2 ^ n) := by
  induction n generalizing v with
  | zero => simp [popAux]
  | succ n ih =>
    rw [show n + 1 + k = (n + k) + 1 from by omega]
    show v % 2 + popAux (n + k) (v / 2) = v % 2 ^ (n + 1) % 2 + popAux n (v % 2 ^ (n + 1) / 2) + popAux k (v / 2 ^ (n + 1))
    rw [ih (v / 2), Nat.pow_succ, Nat.mul_comm (2 ^ n) 2, Nat.mod_mul_right_div_self, Nat.mod_mul_right_mod, Nat.div_div_eq_div_mul]
    omega
theorem popAux_zero (n : Nat) : popAux n 0 = 0 := by
  induction n with
  | zero => rfl
  | succ n ih => show 0 % 2 + popAux n (0 / 2) = 0; rw [show 0 / 2 = 0 from rfl, ih]
theorem popAux_more (n k v : Nat) (h : v < 2 ^ n) : popAux (n + k) v = popAux n v := by
  rw [popAux_add, Nat.mod_eq_of_lt h, Nat.div_eq_of_lt h, popAux_zero]; rfl
/-- The parts of bits.OnesCount64 for a number below 2^24. -/
theorem ones_parts (x : Nat) (h : x < 16777216) : ∃ u1 u2 v1 v2 y3 : Nat, u1 = x / 2 &&& 6148914691236517205 ∧ u2 = x &&& 6148914691236517205 ∧ v1 = (u1 + u2) / 4 &&& 3689348814741910323 ∧ v2 = (u1 + u2) &&& 3689348814741910323 ∧
    y3 = ((v1 + v2) / 16 + (v1 + v2)) &&& 1085102592571150095 ∧ u1 ≤ 16777216 ∧ u2 ≤ 16777216 ∧ v1 ≤ 33554432 ∧ v2 ≤ 33554432 ∧ y3 ≤ 16777216 ∧
    (y3 + y3 / 256 + (y3 + y3 / 256) / 65536 + (y3 + y3 / 256 + (y3 + y3 / 256) / 65536) / 4294967296) % 128 = popAux 24 x := by
  obtain ⟨a, ha⟩ : ∃ a, a = x % 256 := ⟨_, rfl⟩
  obtain ⟨b, hb⟩ : ∃ b, b = x / 256 % 256 := ⟨_, rfl⟩
  obtain ⟨c, hc⟩ : ∃ c, c = x / 65536 := ⟨_, rfl⟩
  have ha' : a < 256 := by omega
  have hb' : b < 256 := by omega
  have hc' : c < 256 := by omega
  have hx : x = a + 256 * (b + 256 * c) := by omega
  have hp : popAux 24 x = popAux 8 a + popAux 8 b + popAux 8 c := by
    rw [show 24 = 8 + (8 + 8) from rfl, popAux_add 8, popAux_add 8, show (2 : Nat) ^ 8 = 256 from rfl, ← ha, ← hb, Nat.div_div_eq_div_mul, show 256 * 256 = 65536 from rfl, ← hc]
    omega
  have s1 := step1 a b c ha' hb' hc'
  rw [← hx] at s1
  have l1 := t1_lt ⟨a, ha'⟩
  have l2 := t1_lt ⟨b, hb'⟩
  have l3 := t1_lt ⟨c, hc'⟩
  simp only at l1 l2 l3
  have s2 := step2 _ _ _ l1 l2 l3
  rw [← s1] at s2
  have m1 := t2_lt ⟨a, ha'⟩
  have m2 := t2_lt ⟨b, hb'⟩
  have m3 := t2_lt ⟨c, hc'⟩
  simp only at m1 m2 m3
  have s3 := step3 _ _ _ m1 m2 m3
  rw [← s2] at s3
  have p1 := t3_pop ⟨a, ha'⟩
  have p2 := t3_pop ⟨b, hb'⟩
  have p3 := t3_pop ⟨c, hc'⟩
  simp only at p1 p2 p3
  have q1 := pop8_le ⟨a, ha'⟩
  have q2 := pop8_le ⟨b, hb'⟩
  have q3 := pop8_le ⟨c, hc'⟩
  simp only at q1 q2 q3
  have hu1 : x / 2 &&& 6148914691236517205 ≤ x / 2 := Nat.and_le_left
  have hu2 : x &&& 6148914691236517205 ≤ x := Nat.and_le_left
  refine ⟨_, _, _, _, _, rfl, rfl, rfl, rfl, rfl, by omega, by omega, ?_, ?_, ?_, ?_⟩
  · exact Nat.le_trans Nat.and_le_left (by omega)
  · exact Nat.le_trans Nat.and_le_left (by omega)
  · rw [s3]; omega
  · rw [s3, hp, p1, p2, p3]
    generalize popAux 8 a = A at *
    generalize popAux 8 b = B at *
    generalize popAux 8 c = C at *
    clear s1 s2 s3 l1 l2 l3 m1 m2 m3 p1 p2 p3 hu1 hu2 hp hx ha hb hc
    have e1 : (A + 256 * (B + 256 * C)) / 256 = B + 256 * C := by omega
    rw [e1]
    have e2 : (A + 256 * (B + 256 * C) + (B + 256 * C)) / 65536 = C := by omega
    rw [e2]
    have e3 : (A + 256 * (B + 256 * C) + (B + 256 * C) + C) / 4294967296 = 0 := by omega
    rw [e3]
    omega

theorem ofInt_natU (a : Nat) (h : a < 18446744073709551616) : (BitVec.ofInt 64 (a : Int)).toNat = a := by
  rw [BitVec.toNat_ofInt]; omega
theorem and_natU (a b : Nat) (ha : a < 18446744073709551616) (hb : b < 18446744073709551616) : bits .and .u64 (a : Int) (b : Int) = ((a &&& b : Nat) : Int) := by
  show IntKind.u64.wrap ((BitVec.ofInt 64 (a : Int) &&& BitVec.ofInt 64 (b : Int)).toNat : Nat) = _
  rw [BitVec.toNat_and, ofInt_natU a ha, ofInt_natU b hb, IntKind.wrap_u64]
  have : a &&& b ≤ a := Nat.and_le_left
  omega
/-- .. as Go reckons. -/
theorem ones_ints (x : Nat) (h : x < 16777216) : ∃ u1 u2 v1 v2 y3 : Int, bits .and .u64 ((x : Int) / 2) 6148914691236517205 = u1 ∧ bits .and .u64 (x : Int) 6148914691236517205 = u2 ∧ bits .and .u64 ((u1 + u2) / 4) 3689348814741910323 = v1 ∧ bits .and .u64 (u1 + u2) 3689348814741910323 = v2 ∧
    bits .and .u64 ((v1 + v2) / 16 + (v1 + v2)) 1085102592571150095 = y3 ∧ (0 ≤ u1 ∧ u1 ≤ 16777216) ∧ (0 ≤ u2 ∧ u2 ≤ 16777216) ∧ (0 ≤ v1 ∧ v1 ≤ 33554432) ∧ (0 ≤ v2 ∧ v2 ≤ 33554432) ∧ (0 ≤ y3 ∧ y3 ≤ 16777216) ∧
    bits .and .i64 (y3 + y3 / 256 + (y3 + y3 / 256) / 65536 + (y3 + y3 / 256 + (y3 + y3 / 256) / 65536) / 4294967296) 127 = (popAux 24 x : Int) := by
  obtain ⟨u1, u2, v1, v2, y3, e1, e2, e3, e4, e5, b1, b2, b3, b4, b5, e6⟩ := ones_parts x h
  refine ⟨u1, u2, v1, v2, y3, ?_, ?_, ?_, ?_, ?_, by omega, by omega, by omega, by omega, by omega, ?_⟩
  · rw [e1]; exact and_natU (x / 2) 6148914691236517205 (by omega) (by omega)
  · rw [e2]; exact and_natU x 6148914691236517205 (by omega) (by omega)
  · rw [e3]; exact and_natU ((u1 + u2) / 4) 3689348814741910323 (by omega) (by omega)
  · rw [e4]; exact and_natU (u1 + u2) 3689348814741910323 (by omega) (by omega)
  · rw [e5]; exact and_natU ((v1 + v2) / 16 + (v1 + v2)) 1085102592571150095 (by omega) (by omega)
  · rw [← e6]
    have h1 := and_nat (y3 + y3 / 256 + (y3 + y3 / 256) / 65536 + (y3 + y3 / 256 + (y3 + y3 / 256) / 65536) / 4294967296) 127 (by omega) (by omega)
    rw [Nat.and_two_pow_sub_one_eq_mod _ 7] at h1
    exact h1
theorem weight_pop (n : Nat) : ∀ v : Nat, weight (bitsOf (v : Int) n) = (popAux n v : Int) := by
  induction n with
  | zero => intro v; rfl
  | succ n ih =>
    intro v
    have e : (v : Int) = 2 * ((v / 2 : Nat) : Int) + ((v % 2 : Nat) : Int) := by omega
    rw [e, bitsOf_snoc _ _ _ (by omega) (by omega), weight_append, ih]
    show (popAux n (v / 2) : Int) + weight [((v % 2 : Nat) : Int)] = ((v % 2 + popAux n (v / 2) : Nat) : Int)
    rw [weight_cons, weight_nil]
    omega
/-- The number of ones of a polynomial of W bits. -/
theorem pop_weight {W : Nat} (g : BitVec W) (hW : W ≤ 24) : (popAux 24 g.toNat : Int) = weight (bitsOf (g.toNat : Int) W) := by
  rw [weight_pop]
  have := popAux_more W (24 - W) g.toNat g.isLt
  rw [show W + (24 - W) = 24 from by omega] at this
  rw [this]
end Go.Proofs.Ytfmbefmiglpijaa
