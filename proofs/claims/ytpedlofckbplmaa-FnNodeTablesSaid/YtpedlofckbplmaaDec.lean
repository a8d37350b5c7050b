/-
  Numbers in decimal: spec.l01Dec; a string of one byte.
-/
import Derived.Test.YtpedlofckbplmaaOne
import Derived.Test.YtpedlofckbplmaaBase
import Derived.Lib.AppendIntMem
import Derived.Lib.ItoaLen
import Derived.Deep.RegionWith
import Derived.Handy
import Derived.Deep.RegionHeld3
import Derived.Deep.DeepCutAuto
import Derived.Laws.BytesArg
namespace Go.Proofs.Ytpedlofckbplmaa
open Go.RowKit

/-- A number in decimal, as a string. -/
def decStr (n : Nat) : ByteArray := ⟨(Lib.decDigits n).toArray⟩
theorem strOf_one (x : Nat) : strOfNums [(x : Int)] = ⟨#[UInt8.ofNat x]⟩ := by
  simp [strOfNums]
theorem decStr_small {n : Nat} (h : n < 10) : decStr n = strOfNums [48 + (n : Int)] := by
  have e : (48 + (n : Int)) = ((48 + n : Nat) : Int) := by omega
  rw [e, strOf_one]
  unfold decStr
  rw [Lib.decDigits, dif_pos h]
theorem decStr_big {n : Nat} (h : ¬ n < 10) : decStr n = decStr (n / 10) ++ strOfNums [48 + ((n % 10 : Nat) : Int)] := by
  have e : (48 + ((n % 10 : Nat) : Int)) = ((48 + n % 10 : Nat) : Int) := by omega
  rw [e, strOf_one]
  unfold decStr
  rw [Lib.decDigits, dif_neg h]
  apply ByteArray.ext
  simp
theorem decStr_size (n : Nat) (h : n < 18446744073709551616) : (decStr n).size ≤ 20 := by
  show (Lib.decDigits n).toArray.size ≤ 20
  rw [List.size_toArray, Lib.decDigits_length]
  exact Lib.nDigits_le20 n h
theorem conv_one (w : World) (x : Int) : (convert 22 9 (.slice (some ⟨w.heap.size, 0, none⟩) 1 1)).run Try.prog (w.alloc (.cells #[.int .u8 x] 5)) = .ok (.string (strOfNums [x])) (w.alloc (.cells #[.int .u8 x] 5)) :=
  run_convert_bytes_arg (w.alloc (.cells #[.int .u8 x] 5)) 22 5 Try.underlying22 Try.underlying5 w.heap.size 0 1 1 [x] rfl (fun i hi => by
    have : i = 0 := by omega
    subst this
    rw [World.cell?_alloc_at _ _ _ _ rfl]; rfl) 9 Try.underlying9
theorem dec_cell (w : World) (x : Int) : (w.alloc (.cells #[.int .u8 x] 5)).cell? ⟨w.heap.size, 0, none⟩ = some (.int .u8 x) := by
  rw [World.cell?_alloc_at _ _ _ _ rfl]; rfl
theorem conv_later {w : World} {b : Nat} {x : Int} (h : w.cell? ⟨b, 0, none⟩ = some (.int .u8 x)) : (convert 22 9 (.slice (some ⟨b, 0, none⟩) 1 1)).run Try.prog w = .ok (.string (strOfNums [x])) w :=
  run_convert_bytes_arg w 22 5 Try.underlying22 Try.underlying5 b 0 1 1 [x] rfl (fun i hi => by
    have : i = 0 := by omega
    subst this; exact h) 9 Try.underlying9
theorem conv_drew (w : World) (x : Int) : (convert 22 9 (.slice (some ⟨w.heap.size, 0, none⟩) 1 1)).run Try.prog (w.alloc (.cells #[.int .u8 x] 5)).drew = .ok (.string (strOfNums [x])) (w.alloc (.cells #[.int .u8 x] 5)).drew :=
  conv_later (w := (w.alloc (.cells #[.int .u8 x] 5)).drew) (dec_cell w x)
def GivesStr (w : World) (s : ByteArray) (e : Ending) (w' : World) : Prop := e = .returned (.string s) ∧ Below w.heap.size w w'
set_option maxRecDepth 100000 in
theorem l01Dec_any (n : Nat) : ∀ w : World, n ≤ 9223372036854775807 → Calls Try.prog 93 #[.int .i64 n] w (GivesStr w (decStr n)) := by
  induction n using Nat.strongRecOn with
  | _ n ih =>
    intro w hn
    by_cases h : n < 10
    · rw [decStr_small h]
      have hc := conv_one
      have h48 : (48 : Int) + n ≤ 57 := by omega
      clear ih
      go_enter Try.func93, Try.ntmps93
      go_wp2_with fail
      go_ret
      exact ⟨rfl, (Below.refl _ _).alloc (Nat.le_refl _) _⟩
    · have ih := fun W => ih (n / 10) (by omega) W (by omega)
      rw [decStr_big h]
      have IH := Lib.hid ih; clear ih
      have hc := conv_one
      have hcd := conv_drew
      obtain ⟨d, hd⟩ : ∃ d : Nat, d = n % 10 := ⟨_, rfl⟩
      obtain ⟨q, hq⟩ : ∃ q : Nat, q = n / 10 := ⟨_, rfl⟩
      rw [← hd]
      rw [← hq] at IH ⊢
      have hq2 : ((n : Int)) / 10 = (q : Int) := by omega
      have hd2 : ((n : Int)).tmod 10 = (d : Int) := by rw [Int.tmod_eq_emod_of_nonneg (by omega)]; omega
      have hw1 : IntKind.i64.wrap (q : Int) = (q : Int) := by rw [IntKind.wrap_i64]; omega
      have hw2 : IntKind.i64.wrap (48 + (d : Int)) = 48 + (d : Int) := by rw [IntKind.wrap_i64]; omega
      have hw3 : IntKind.u8.wrap (48 + (d : Int)) = 48 + (d : Int) := by
        simp only [IntKind.wrap, IntKind.signed, IntKind.bits]
        simp
        omega
      have h48 : (48 : Int) + d ≤ 57 := by omega
      clear hd hq
      have hq3 := decStr_size q (by omega)
      have hadd := fun w => run_string_add (P := Try.prog) w (decStr q) (strOfNums [48 + (d : Int)]) (by omega) (by rw [strOfNums_size]; simp)
      clear hq3
      go_enter Try.func93, Try.ntmps93
      go_upto_region 3 with fail
      go_region_with (first
        | (go_at_call 93; refine (IH.out _).mono ?_; rintro e w1 ⟨rfl, b1⟩; have hcell := (b1.cell (p := ⟨w.heap.size, 0, none⟩) (by simp)).trans (dec_cell w (48 + (d : Int))); have hcv := conv_later hcell; have HB : Below w.heap.size w w1 := below_two (by go_grown) b1; clear b1 hcell)
        | (go_at_call 93; refine (IH.out _).mono ?_; rintro e w1 ⟨rfl, b1⟩; have HB : Below w.heap.size w w1 := below_two (by go_grown) b1; clear b1))
      all_goals
        go_wp2_with fail
        go_ret
        first
        | exact ⟨rfl, HB⟩
        | exact ⟨rfl, HB.alloc HB.size _⟩
end Go.Proofs.Ytpedlofckbplmaa
