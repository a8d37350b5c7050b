/-
  Chapter 18: PadLine, on both sides; slices.Concat of some lists of numbers, none of them too long together.
-/
import Derived.Test.YtilkopbfbmibgaaLi8
import Derived.Test.YtilkopbfbmibgaaCat
namespace Go.Proofs.Ytilkopbfbmibgaa
open Go.RowKit

theorem growB_any (n : Nat) (w : World) (hn : n ≤ 20000) : Calls Try.prog 66 #[.slice none 0 0, .int .i64 n] w (Makes 2 w []) := by
  rcases Nat.eq_zero_or_pos n with rfl | hp
  · go_enter Try.func66, Try.ntmps66
    go_wp2
    go_ret
    exact ⟨_, rfl, Own.nil_, Below.refl _ _⟩
  · exact growI_any n w hp hn
set_option maxRecDepth 100000 in
set_option maxHeartbeats 2000000 in
theorem concatB_any (G M cap : Nat) (A : Nat → Option Addr) (N C : Nat → Nat) (T : Nat → List Int) (w : World) (hM : M ≤ 10) (hc : ∀ i, i < M → w.cell? ⟨G, i, none⟩ = some (.slice (A i) (N i) (C i))) (hr : ∀ i, i < M → Rd w (A i) (N i) (T i)) (hS : ∀ k, k ≤ M → sumI N k ≤ 20000) (hG : G < w.heap.size) :
    Calls Try.prog 52 #[.slice (some ⟨G, 0, none⟩) M cap] w (Makes 2 w (catI T M)) := by
  have HC := Lib.hid hc; have HR := Lib.hid hr
  have HTL := Lib.hid (catI_len (fun i hi => (hr i hi).len))
  have HSL := Lib.hid hS
  clear hc hr hS
  go_enter Try.func52, Try.ntmps52
  go_wp2
  go_loopw [3, 5, 11] (fun sz _u i wr => ∃ k : Nat, k ≤ M ∧ i = .int .i64 k ∧ sz = .int .i64 ((sumI N k : Nat) : Int) ∧ w = wr) (fun _ _ i _ => M - (intOf i).toNat)
  case atStart => exact ⟨0, Nat.zero_le _, rfl, rfl, rfl⟩
  case round =>
    obtain ⟨k, hk, rfl, rfl, rfl⟩ := hrel
    by_cases hlt : k < M
    · have hck := HC.out k hlt
      have h1 := HSL.out (k + 1) hlt
      have hsn : sumI N (k + 1) = sumI N k + N k := rfl
      rw [hsn] at h1
      have HSN := Lib.hid hsn
      generalize sumI N k = s at h1 hsn HSN ⊢
      generalize N k = nk at h1 hsn HSN hck
      have hw1 : IntKind.i64.wrap ((s : Int) + (nk : Int)) = (s : Int) + (nk : Int) := by rw [IntKind.wrap_i64]; omega
      have hw2 : ¬ ((s : Int) + (nk : Int) < 0) := by omega
      clear hsn h1
      go_wp2
      go_roundw
      case rel => exact ⟨k + 1, by omega, by go_num, by rw [HSN.out]; simp, by first | rfl | trivial⟩
      case measure => simp [intOf]; omega
    · have hkn : k = M := by omega
      subst hkn
      have h1 := HSL.out k (Nat.le_refl _)
      have HGROW := Lib.hid (growB_any (sumI N k) w h1)
      clear h1
      go_wp2_with fail
      refine HGROW.out.mono ?_
      rintro e w1 m1
      obtain ⟨pg, cg, rfl, og, -, bg⟩ := m1.get
      have OG := Lib.hid og
      have BG := Lib.hid bg
      clear m1 og bg HGROW
      go_wp2
      go_loopw [6, 8, 27] (fun s _u i wr => ∃ (q : Nat) (v : Value), q ≤ k ∧ v = s ∧ i = .int .i64 q ∧ Hid (Own 2 wr w.heap.size v (catI T q)) ∧ Hid (Below w.heap.size w wr)) (fun _ _ i _ => k - (intOf i).toNat)
      case atStart => exact ⟨0, _, Nat.zero_le _, rfl, rfl, OG.out, BG.out⟩
      case round =>
        clear OG BG
        obtain ⟨q, v, hq, rfl, rfl, HO, HB⟩ := hrel
        by_cases hqk : q < k
        · have hck := (HB.out.cell (p := ⟨G, q, none⟩) hG).trans (HC.out q hqk)
          have hrk := (HR.out q hqk).below HB.out
          have hlen : (catI T q).length + N q ≤ 4294967296 := by have h1 := HTL.out q (by omega); have h2 := HSL.out (q + 1) (by omega); have h3 : sumI N (q + 1) = sumI N q + N q := rfl; omega
          have HE := Lib.hid (show catI T (q + 1) = catI T q ++ T q from rfl)
          have HRK := Lib.hid hrk
          have hbs := HB.out.size
          generalize N q = nq at hck HRK hlen
          generalize C q = cq at hck
          generalize A q = aq at hck HRK
          clear hrk
          go_wp2_with (at_builtin; go_loud (refine append_list _ rfl (.tmp 31) (.tmp 32) rfl w.heap.size Try.underlying24 info64 v (catI T q) rfl HO.out aq nq cq (T q) rfl HRK.out hlen hbs ?_); intro v2 w2 o2 b2)
          rw [← HE.out] at o2
          have HO2 := Lib.hid o2; have HB2 := Lib.hid (HB.out.trans b2)
          clear o2 b2
          go_roundw
          case rel => exact ⟨q + 1, v2, by omega, rfl, by go_num, HO2, HB2⟩
          case measure => simp [intOf]; omega
        · have hqn : q = k := by omega
          subst hqn
          go_wp2
          go_ret
          exact ⟨v, rfl, HO.out, HB.out⟩
end Go.Proofs.Ytilkopbfbmibgaa
