/-
  Chapter 9, the model: slices of a byte list; BlockAt; damaged blocks.
-/
import Derived.Test.YtckaknaeddiphaaK3
namespace Go.Proofs.Ytckaknaeddiphaa
open Go.RowKit

theorem slice_all (xs : List Int) (k : Nat) : (sliceOf xs k).length = min 33 (xs.length - 33 * k) := slice_len xs k
theorem Rd.any0 {w : World} {ao : Option Addr} : Rd w ao 0 [] := ⟨rfl, fun h => absurd h (by omega)⟩
/-- What l09Slice hands back. -/
def GivesSl (w : World) (xs : List Int) (e : Ending) (w' : World) : Prop := ∃ a c, e = .returned (.slice a xs.length c) ∧ Rd w a xs.length xs ∧ xs.length ≤ c ∧ c ≤ 9223372036854775807 ∧ w = w'
theorem l09Slice_any (k : Nat) (ao : Option Addr) (n cap : Nat) (xs : List Int) (w : World) (hk : k ≤ 100000) (hr : Rd w ao n xs) (hn : n ≤ 1024) (hcap : n ≤ cap) (hcap2 : cap ≤ 9223372036854775807) :
    Calls Try.prog 50 #[.slice ao n cap, .int .i64 k] w (GivesSl w (sliceOf xs k)) := by
  have hl := hr.len
  have hsl := slice_all xs k
  rw [hl] at hsl
  obtain ⟨t, ht⟩ : ∃ t, t = 33 * k := ⟨_, rfl⟩
  have hkt : (k : Int) * 33 = (t : Int) := by omega
  rw [← ht] at hsl
  have hdef : sliceOf xs k = (xs.drop t).take 33 := by rw [ht]; rfl
  have ht9 : t ≤ 4000000 := by omega
  clear hk ht
  by_cases h0 : n ≤ t
  · have hnil : sliceOf xs k = [] := List.length_eq_zero_iff.1 (by omega)
    rw [hnil]
    have hle : (n : Int) ≤ (t : Int) := by omega
    have hle2 : (n : Int) ≤ (n : Int) + 33 := by omega
    clear hdef hnil hsl hl hr h0
    by_cases hc : cap = n
    · subst hc
      go_enter Try.func50, Try.ntmps50
      go_wp2
      all_goals
        go_ret
        exact ⟨_, _, rfl, Rd.any0, by simp, by simp, rfl⟩
    · obtain ⟨e, rfl⟩ : ∃ e, cap = e + 1 + n := ⟨cap - n - 1, by omega⟩
      have HC := Lib.hid hcap2; clear hc hcap hcap2
      go_enter Try.func50, Try.ntmps50
      go_wp2
      all_goals
        go_ret
        exact ⟨_, _, rfl, Rd.any0, by simp, by have := HC.out; omega, rfl⟩
  · obtain ⟨r, rfl⟩ : ∃ r, n = r + 1 + t := ⟨n - t - 1, by omega⟩
    obtain ⟨e, rfl⟩ : ∃ e, cap = e + 1 + t := ⟨cap - t - 1, by omega⟩
    have hR := hr.tail9 (a := t) (m := r + 1) rfl
    have hle : ¬ ((r : Int) + 1 + (t : Int) ≤ (t : Int)) := by omega
    by_cases h1 : r + 1 ≤ 33
    · have hs : sliceOf xs k = xs.drop t := by rw [hdef, List.take_of_length_le (by rw [List.length_drop]; omega)]
      have hdl : (xs.drop t).length = r + 1 := by rw [List.length_drop]; omega
      rw [hs]
      generalize xs.drop t = ys at hR hdl
      clear hs hdef hsl hl hr
      have hle2 : (r : Int) + 1 + (t : Int) ≤ (t : Int) + 33 := by omega
      have hb1 : (t : Int) ≤ (r : Int) + 1 + (t : Int) := by omega
      have hb2 : (r : Int) + 1 + (t : Int) ≤ (e : Int) + 1 + (t : Int) := by omega
      have HF := Lib.hid (show r + 1 ≤ e + 1 ∧ e + 1 ≤ 9223372036854775807 from by omega)
      have HR := Lib.hid hR
      have HL := Lib.hid hdl
      clear hdl hR h1 h0 hcap hcap2
      go_enter Try.func50, Try.ntmps50
      go_wp2
      all_goals
        go_ret
        exact ⟨_, _, by rw [HL.out]; rfl, by rw [HL.out]; exact HR.out, by rw [HL.out]; exact HF.out.1, HF.out.2, rfl⟩
    · have hdl : ((xs.drop t).take 33).length = 33 := by rw [List.length_take, List.length_drop]; omega
      rw [hdef]
      have hR2 := hR.head9 (a := 33) (by omega)
      generalize (xs.drop t).take 33 = ys at hR2 hdl
      clear hdef hsl hl hr hR
      have hle2 : ¬ ((r : Int) + 1 + (t : Int) ≤ (t : Int) + 33) := by omega
      have hb1 : (t : Int) ≤ (t : Int) + 33 := by omega
      have hb2 : (t : Int) + 33 ≤ (e : Int) + 1 + (t : Int) := by omega
      have HF := Lib.hid (show 33 ≤ e + 1 ∧ e + 1 ≤ 9223372036854775807 from by omega)
      have HR := Lib.hid hR2
      have HL := Lib.hid hdl
      clear hdl hR2 h1 h0 hcap hcap2
      go_enter Try.func50, Try.ntmps50
      go_wp2
      all_goals
        go_ret
        exact ⟨_, _, by rw [HL.out]; rfl, by rw [HL.out]; exact HR.out, by rw [HL.out]; exact HF.out.1, HF.out.2, rfl⟩
theorem sBlockAt_any (ao : Option Addr) (cap : Nat) (xs : List Int) (k : Int) (w : World) (hr : Rd w ao xs.length xs) (hn : xs.length ≤ 1048576) (hcap : xs.length ≤ cap) (hcap2 : cap ≤ 9223372036854775807) :
    Calls Try.prog 26 #[.slice ao xs.length cap, .int .i64 k] w (Makes2 2 w (blockAt xs k).1 (blockAt xs k).2) := by
  have hcall := fun W h => sIsBytes_any ao xs.length cap xs W h (by omega)
  rcases hb : isBytes xs with _ | _
  · rw [show blockAt xs k = ([], 2) from by unfold blockAt; rw [hb]; rfl]
    rw [hb] at hcall
    have HR := Lib.hid hr; clear hr
    generalize xs.length = n at hcall HR
    go_enter Try.func26, Try.ntmps26
    go_wp2_with fail
    refine (hcall _ HR.out).mono ?_
    rintro e w1 ⟨rfl, rfl⟩
    go_wp2
    go_ret2
    exact ⟨_, rfl, Own.nil_, Below.refl _ _⟩
  · rw [hb] at hcall
    have hn' := (isBytes_iff.1 hb).1
    have hin := fun W => l01In_any k 0 (xs.length : Int) W
    by_cases h1 : 0 ≤ k ∧ k ≤ (xs.length : Int)
    · rw [inRange_iff.2 h1] at hin
      by_cases h2 : 33 * k < (xs.length : Int)
      · rw [show blockAt xs k = (sliceOf xs k.toNat, 0) from by unfold blockAt; rw [if_neg (by rw [hb]; simp), if_pos ⟨h1.1, h2⟩]]
        obtain ⟨j, rfl⟩ : ∃ j : Nat, k = j := ⟨k.toNat, by omega⟩
        rw [Int.toNat_natCast]
        have hs := fun W h => l09Slice_any j ao xs.length cap xs W (by omega) h hn' hcap hcap2
        have h2' : (j : Int) * 33 < (xs.length : Int) := by omega
        have hsl := slice_all xs j
        generalize sliceOf xs j = ys at hs hsl ⊢
        have HY := Lib.hid (show ys.length ≤ 1048576 from by omega)
        have HR := Lib.hid hr; clear hr hb
        have hw : IntKind.i64.wrap ((j : Int) * 33) = (j : Int) * 33 := by rw [IntKind.wrap_i64]; omega
        clear hsl h1 h2 hn hn' hcap hcap2
        generalize xs.length = n at *
        go_enter Try.func26, Try.ntmps26
        go_wp2_with fail
        refine (hcall _ HR.out).mono ?_
        rintro e w1 ⟨rfl, rfl⟩
        go_wp2_with fail
        refine (hin _).mono ?_
        rintro e w1 ⟨rfl, rfl⟩
        have R1 := Lib.hid (HR.out)
        go_wp2_with fail
        refine (hs _ R1.out).mono ?_
        rintro e w2 ⟨a2, c2, rfl, r2, hc2, hc3, rfl⟩
        have R2 := Lib.hid r2; clear r2 hc2 hc3
        go_wp2_with fail
        refine (l01Own_any _ _ _ _ R2.out HY.out).mono ?_
        rintro e w3 m3
        obtain ⟨p3, c3, rfl, o3, -, b3⟩ := m3.get
        have O3 := Lib.hid (o3.more (base' := w.heap.size) (Nat.le_refl _))
        have B3 := Lib.hid b3
        clear m3 o3 b3
        go_wp2
        go_ret2
        exact ⟨_, rfl, O3.out, B3.out⟩
      · rw [show blockAt xs k = ([], 4) from by unfold blockAt; rw [if_neg (by rw [hb]; simp), if_neg (by omega)]]
        have h2' : (xs.length : Int) ≤ k * 33 := by omega
        have HR := Lib.hid hr; clear hr hb
        have hw : IntKind.i64.wrap (k * 33) = k * 33 := by rw [IntKind.wrap_i64]; omega
        clear h1 h2 hn hn' hcap hcap2
        generalize xs.length = n at *
        go_enter Try.func26, Try.ntmps26
        go_wp2_with fail
        refine (hcall _ HR.out).mono ?_
        rintro e w1 ⟨rfl, rfl⟩
        go_wp2_with fail
        refine (hin _).mono ?_
        rintro e w1 ⟨rfl, rfl⟩
        go_wp2
        go_ret2
        exact ⟨_, rfl, Own.nil_, Below.refl _ _⟩
    · rw [show blockAt xs k = ([], 4) from by unfold blockAt; rw [if_neg (by rw [hb]; simp), if_neg (by omega)]]
      rw [show inRange 0 (xs.length : Int) k = false from by rw [← Bool.not_eq_true, inRange_iff]; exact h1] at hin
      have HR := Lib.hid hr; clear hr hb
      clear h1 hn hn' hcap hcap2
      generalize xs.length = n at *
      go_enter Try.func26, Try.ntmps26
      go_wp2_with fail
      refine (hcall _ HR.out).mono ?_
      rintro e w1 ⟨rfl, rfl⟩
      go_wp2_with fail
      refine (hin _).mono ?_
      rintro e w1 ⟨rfl, rfl⟩
      go_wp2
      go_ret2
      exact ⟨_, rfl, Own.nil_, Below.refl _ _⟩
end Go.Proofs.Ytckaknaeddiphaa
