/-
  Chapter 10: entries marked and found again by the laws.
-/
import Derived.Test.YtpedlofckbplmaaL1
import Derived.Test.YtpedlofckbplmaaDec
namespace Go.Proofs.Ytpedlofckbplmaa
open Go.RowKit

def mText (k : Nat) : ByteArray := { data := #[109] } ++ decStr k
/-- What a text comes to whose last letters are s, and before them a number's. -/
def finTo (q : Nat) (s : ByteArray) : ByteArray := if q = 0 then s else decStr q ++ s
theorem finTo_step {q : Nat} {s : ByteArray} (h : 0 < q) : finTo (q / 10) (strOfNums [48 + ((q % 10 : Nat) : Int)] ++ s) = finTo q s := by
  have e : finTo q s = decStr q ++ s := by unfold finTo; rw [if_neg (by omega)]
  rw [e]
  by_cases h2 : q < 10
  · have e2 : q / 10 = 0 := by omega
    have e3 : q % 10 = q := by omega
    unfold finTo
    rw [if_pos e2, e3, decStr_small h2]
  · unfold finTo
    rw [if_neg (by omega), decStr_big h2, ByteArray.append_assoc]
theorem finTo_size (q : Nat) (s : ByteArray) : s.size ≤ (finTo q s).size := by
  unfold finTo
  split
  · omega
  · rw [ByteArray.size_append]; omega
set_option maxHeartbeats 1000000 in
set_option maxRecDepth 100000 in
theorem markText_any (K : Nat) (w : World) (h0 : 0 < K) (hK : K ≤ 9223372036854775807) : Calls Try.prog 66 #[.int .i64 K] w fun e w' => e = .returned (.string (mText K)) ∧ Below w.heap.size w w' := by
  have hsz := decStr_size K (by omega)
  have HSZ := Lib.hid hsz; clear hsz
  have hst : finTo K { data := #[] } = decStr K := by unfold finTo; rw [if_neg (by omega)]; exact ByteArray.append_empty
  have HST := Lib.hid hst; clear hst
  have hz : ¬ (K : Int) ≤ 0 := by omega
  go_enter Try.func66, Try.ntmps66
  go_wp2_with fail
  go_loopw [0, 3] (fun i o wr => ∃ (q : Nat) (s : ByteArray), q ≤ K ∧ i = .int .i64 q ∧ o = .string s ∧ Hid (finTo q s = decStr K) ∧ Below w.heap.size w wr) (fun i _ _ => (intOf i).toNat)
  case atStart => exact ⟨K, { data := #[] }, Nat.le_refl _, rfl, rfl, HST.out, Below.refl _ _⟩
  case round =>
    clear hz HST
    obtain ⟨q, s, hq, rfl, rfl, hfin, hb⟩ := hrel
    have hss : s.size ≤ 20 := by have := finTo_size q s; rw [hfin.out] at this; have := HSZ.out; omega
    by_cases hpos : 0 < q
    · have hstep := finTo_step (s := s) hpos
      rw [hfin.out] at hstep
      obtain ⟨d, hd⟩ : ∃ d : Nat, d = q % 10 := ⟨_, rfl⟩
      obtain ⟨r, hr⟩ : ∃ r : Nat, r = q / 10 := ⟨_, rfl⟩
      rw [← hd, ← hr] at hstep
      have hq2 : ((q : Int)).tdiv 10 = (r : Int) := by rw [Int.tdiv_eq_ediv_of_nonneg (by omega)]; omega
      have hd2 : ((q : Int)).tmod 10 = (d : Int) := by rw [Int.tmod_eq_emod_of_nonneg (by omega)]; omega
      have hrq : r < q := by omega
      have hw1 : IntKind.i64.wrap (r : Int) = (r : Int) := by rw [IntKind.wrap_i64]; omega
      have hw2 : IntKind.i64.wrap (48 + (d : Int)) = 48 + (d : Int) := by rw [IntKind.wrap_i64]; omega
      have hw3 : IntKind.u8.wrap (48 + (d : Int)) = 48 + (d : Int) := by
        simp only [IntKind.wrap, IntKind.signed, IntKind.bits]
        simp
        omega
      have hqp : (0 : Int) < (q : Int) := by omega
      have hc := conv_one
      have hadd := fun w => run_string_add (P := Try.prog) w (strOfNums [48 + (d : Int)]) s (by rw [strOfNums_size]; simp) (by omega)
      have HSTEP := Lib.hid hstep; have HB := Lib.hid hb
      clear hstep hd hr hb hss hpos
      go_wp2_with fail
      go_roundw
      case rel => exact ⟨r, strOfNums [48 + (d : Int)] ++ s, by omega, rfl, rfl, HSTEP.out, HB.out.alloc HB.out.size _⟩
      case measure => simp [intOf]; omega
    · have hq0 : q = 0 := by omega
      subst hq0
      have hfs : s = decStr K := by have := hfin.out; unfold finTo at this; rwa [if_pos rfl] at this
      subst hfs
      have hadd := fun w => run_string_add (P := Try.prog) w { data := #[109] } (decStr K) (by decide) (by omega)
      have HB := Lib.hid hb; clear hb
      go_wp2_with fail
      go_ret
      exact ⟨rfl, HB.out⟩
def mkN (q : Int) (i : Nat) : Nd := ⟨q + 4 * i, mText (q + 4 * i + 1).toNat, q + 4 * i + 2, (q + 4 * i + 3) % 3 == 0⟩
def marksN (q : Int) (n : Nat) : List Nd := (List.range n).map (mkN q)
theorem marksN_len (q : Int) (n : Nat) : (marksN q n).length = n := by simp [marksN]
theorem marksN_at {q : Int} {n i : Nat} (h : i < n) : ndOf (marksN q n) i = mkN q i := by simp [ndOf, marksN, List.getD, h]
/-- While a list is marked: the first k entries are marks, the others as they were. -/
def markToN (q : Int) (t : List Nd) (k : Nat) : List Nd := marksN q k ++ t.drop k
theorem markToN_len (q : Int) (t : List Nd) (k : Nat) (hk : k ≤ t.length) : (markToN q t k).length = t.length := by
  unfold markToN; rw [List.length_append, marksN_len, List.length_drop]; omega
theorem markToN_zero (q : Int) (t : List Nd) : markToN q t 0 = t := by simp [markToN, marksN]
theorem markToN_all (q : Int) (t : List Nd) : markToN q t t.length = marksN q t.length := by simp [markToN]
theorem markToN_succ (q : Int) (t : List Nd) (k : Nat) (hk : k < t.length) : (markToN q t k).set k (mkN q k) = markToN q t (k + 1) := by
  unfold markToN
  rw [List.set_append_right _ _ (by rw [marksN_len]; exact Nat.le_refl _), marksN_len, Nat.sub_self, List.drop_eq_getElem_cons hk, List.set_cons_zero]
  unfold marksN
  rw [List.range_succ, List.map_append]
  simp
end Go.Proofs.Ytpedlofckbplmaa
