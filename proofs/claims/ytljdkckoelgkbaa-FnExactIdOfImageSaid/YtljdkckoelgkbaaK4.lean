/-
  Chapter 9, the model: slices of a byte list; BlockAt; damaged blocks.
-/
import Derived.Test.YtljdkckoelgkbaaK3
namespace Go.Proofs.Ytljdkckoelgkbaa
open Go.RowKit

theorem slice_all (xs : List Int) (k : Nat) : (sliceOf xs k).length = min 33 (xs.length - 33 * k) := slice_len xs k
theorem Rd.any0 {w : World} {ao : Option Addr} : Rd w ao 0 [] := ⟨rfl, fun h => absurd h (by omega)⟩
/-- What l09Slice hands back. -/
def GivesSl (w : World) (xs : List Int) (e : Ending) (w' : World) : Prop := ∃ a c, e = .returned (.slice a xs.length c) ∧ Rd w a xs.length xs ∧ xs.length ≤ c ∧ c ≤ 9223372036854775807 ∧ w = w'
theorem l09Slice_any (k : Nat) (ao : Option Addr) (n cap : Nat) (xs : List Int) (w : World) (hk : k ≤ 100000) (hr : Rd w ao n xs) (hn : n ≤ 1024) (hcap : n ≤ cap) (hcap2 : cap ≤ 9223372036854775807) :
    Calls Try.prog 32 #[.slice ao n cap, .int .i64 k] w (GivesSl w (sliceOf xs k)) := by
  have hl := hr.len
  have hsl := slice_all xs k
  rw [hl] at hsl
  obtain ⟨t, ht⟩ : ∃ t, t = 33 * k := ⟨_, rfl⟩
  have hkt : (k : Int) * 33 = (t : Int) := by omega
  rw [← ht] at hsl
  have hdef : sliceOf xs k = (xs.drop t).take 33 := by rw [ht]; rfl
  have ht9 : t ≤ 4000000 := by omega
  clear hk ht
  by_cases h0 : n ≤ t
  · have hnil : sliceOf xs k = [] := List.length_eq_zero_iff.1 (by omega)
    rw [hnil]
    have hle : (n : Int) ≤ (t : Int) := by omega
    have hle2 : (n : Int) ≤ (n : Int) + 33 := by omega
    clear hdef hnil hsl hl hr h0
    by_cases hc : cap = n
    · subst hc
      go_enter Try.func32, Try.ntmps32
      go_wp2
      all_goals
        go_ret
        exact ⟨_, _, rfl, Rd.any0, by simp, by simp, rfl⟩
    · obtain ⟨e, rfl⟩ : ∃ e, cap = e + 1 + n := ⟨cap - n - 1, by omega⟩
      have HC := Lib.hid hcap2; clear hc hcap hcap2
      go_enter Try.func32, Try.ntmps32
      go_wp2
      all_goals
        go_ret
        exact ⟨_, _, rfl, Rd.any0, by simp, by have := HC.out; omega, rfl⟩
  · obtain ⟨r, rfl⟩ : ∃ r, n = r + 1 + t := ⟨n - t - 1, by omega⟩
    obtain ⟨e, rfl⟩ : ∃ e, cap = e + 1 + t := ⟨cap - t - 1, by omega⟩
    have hR := hr.tail9 (a := t) (m := r + 1) rfl
    have hle : ¬ ((r : Int) + 1 + (t : Int) ≤ (t : Int)) := by omega
    by_cases h1 : r + 1 ≤ 33
    · have hs : sliceOf xs k = xs.drop t := by rw [hdef, List.take_of_length_le (by rw [List.length_drop]; omega)]
      have hdl : (xs.drop t).length = r + 1 := by rw [List.length_drop]; omega
      rw [hs]
      generalize xs.drop t = ys at hR hdl
      clear hs hdef hsl hl hr
      have hle2 : (r : Int) + 1 + (t : Int) ≤ (t : Int) + 33 := by omega
      have hb1 : (t : Int) ≤ (r : Int) + 1 + (t : Int) := by omega
      have hb2 : (r : Int) + 1 + (t : Int) ≤ (e : Int) + 1 + (t : Int) := by omega
      have HF := Lib.hid (show r + 1 ≤ e + 1 ∧ e + 1 ≤ 9223372036854775807 from by omega)
      have HR := Lib.hid hR
      have HL := Lib.hid hdl
      clear hdl hR h1 h0 hcap hcap2
      go_enter Try.func32, Try.ntmps32
      go_wp2
      all_goals
        go_ret
        exact ⟨_, _, by rw [HL.out]; rfl, by rw [HL.out]; exact HR.out, by rw [HL.out]; exact HF.out.1, HF.out.2, rfl⟩
    · have hdl : ((xs.drop t).take 33).length = 33 := by rw [List.length_take, List.length_drop]; omega
      rw [hdef]
      have hR2 := hR.head9 (a := 33) (by omega)
      generalize (xs.drop t).take 33 = ys at hR2 hdl
      clear hdef hsl hl hr hR
      have hle2 : ¬ ((r : Int) + 1 + (t : Int) ≤ (t : Int) + 33) := by omega
      have hb1 : (t : Int) ≤ (t : Int) + 33 := by omega
      have hb2 : (t : Int) + 33 ≤ (e : Int) + 1 + (t : Int) := by omega
      have HF := Lib.hid (show 33 ≤ e + 1 ∧ e + 1 ≤ 9223372036854775807 from by omega)
      have HR := Lib.hid hR2
      have HL := Lib.hid hdl
      clear hdl hR2 h1 h0 hcap hcap2
      go_enter Try.func32, Try.ntmps32
      go_wp2
      all_goals
        go_ret
        exact ⟨_, _, by rw [HL.out]; rfl, by rw [HL.out]; exact HR.out, by rw [HL.out]; exact HF.out.1, HF.out.2, rfl⟩
end Go.Proofs.Ytljdkckoelgkbaa
