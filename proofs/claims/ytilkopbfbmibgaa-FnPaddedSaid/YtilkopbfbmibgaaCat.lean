/-
  slices.Grow of nil and slices.Concat of some lists of numbers.
-/
import Derived.Test.YtilkopbfbmibgaaOneB
import Derived.Deep.AppendLies
import Derived.Lib.AppendZeros
import Derived.ArgAppend
namespace Go.Proofs.Ytilkopbfbmibgaa
open Go.RowKit

theorem info64_intC : (Try.prog.underlying 3) = some (.int .i64) := by kernel_rfl
set_option maxRecDepth 100000 in
/-- slices.Grow of nil: an empty slice of the call's own. -/
theorem growI_any (n : Nat) (w : World) (h0 : 0 < n) (hn : n ≤ 20000) : Calls Try.prog 66 #[.slice none 0 0, .int .i64 n] w (Makes 2 w []) := by
  obtain ⟨i0, hi, hz0, hz1, hz2⟩ := info_parts (P := Try.prog) (e := 2) info64
  have hrun := fun ty => Lib.run_append_nil_zeros (P := Try.prog) w 24 3 ty 2 i0 (.int .i64 0) .i64 .i64 Try.underlying24 info64_intC hi hz0 n h0 (by rw [hz1]; decide) (by omega) (by rw [hz2]; omega)
  have hge := grownCap_ge w n 0 2
  have hcm : grownCap w n 0 2 ≤ maxLen := grownCap_le_maxLen w n 0 2 (by unfold maxLen; omega)
  generalize grownCap w n 0 2 = gc at hrun hge hcm
  have hcell : ((Value.int .i64 0).cells) = #[Value.int .i64 0] := rfl
  obtain ⟨cur, hcur⟩ : ∃ cur, Builtin.zeroCells (Value.int .i64 0).cells n ++ Builtin.zeroCells (Value.int .i64 0).cells (gc - n) = cur := ⟨_, rfl⟩
  have hsz : cur.size = gc := by rw [← hcur, Array.size_append, size_zeroCells, size_zeroCells, hcell]; simp; omega
  rw [hcur] at hrun
  have hRUN := Lib.hid hrun; clear hrun hcur hcell
  have hk0 : ¬ ((n : Int) < 0) := by omega
  have hk1 : (0 : Int) < (n : Int) := by omega
  have hgc : (0 : Int) ≤ (gc : Int) := by omega
  have hbl : Below w.heap.size w (w.drew.alloc (.cells cur 2)) := ((Below.refl _ _).drew).alloc (Nat.le_refl _) _
  have hown : Own 2 (w.drew.alloc (.cells cur 2)) w.heap.size (.slice (some ⟨w.heap.size, 0, none⟩) 0 gc) [] :=
    ⟨by simp, .inr ⟨w.heap.size, gc, cur, by simp, Nat.le_refl _, heap_alloc_new w.drew _, by simp, hcm, by rw [hsz, Nat.mul_one], by simp⟩⟩
  have HO := Lib.hid hown; have HBL := Lib.hid hbl; clear hown hbl
  go_enter Try.func66, Try.ntmps66
  go_wp2_with (at_builtin; refine Lib.wpList_append_run w rfl (.tmp 20) (.tmp 21) 24 3 rfl (.slice none 0 0) (.int .i64 n) rfl rfl _ _ (hRUN.out _) ?_)
  go_ret
  exact ⟨_, rfl, HO.out, HBL.out⟩
/-! ### Concat -/
def sumI (N : Nat → Nat) : Nat → Nat
  | 0 => 0
  | k + 1 => sumI N k + N k
def catI (T : Nat → List Int) : Nat → List Int
  | 0 => []
  | k + 1 => catI T k ++ T k
theorem catI_len {N : Nat → Nat} {T : Nat → List Int} {M : Nat} (h : ∀ i, i < M → (T i).length = N i) : ∀ k, k ≤ M → (catI T k).length = sumI N k
  | 0, _ => rfl
  | k + 1, hk => by rw [catI, sumI, List.length_append, catI_len h k (by omega), h k (by omega)]
theorem sumI_le {N : Nat → Nat} {B : Nat} (h : ∀ i, N i ≤ B) : ∀ k, sumI N k ≤ k * B
  | 0 => by simp [sumI]
  | k + 1 => by have := sumI_le h k; have := h k; rw [sumI, Nat.succ_mul]; omega
set_option maxRecDepth 100000 in
set_option maxHeartbeats 2000000 in
theorem concatI_any (G M cap : Nat) (A : Nat → Option Addr) (N C : Nat → Nat) (T : Nat → List Int) (w : World) (hM : M ≤ 10) (hc : ∀ i, i < M → w.cell? ⟨G, i, none⟩ = some (.slice (A i) (N i) (C i))) (hr : ∀ i, i < M → Rd w (A i) (N i) (T i)) (hN : ∀ i, N i ≤ 1000) (hpos : 0 < sumI N M) (hG : G < w.heap.size) :
    Calls Try.prog 52 #[.slice (some ⟨G, 0, none⟩) M cap] w (Makes 2 w (catI T M)) := by
  have HC := Lib.hid hc; have HR := Lib.hid hr
  have HTL := Lib.hid (catI_len (fun i hi => (hr i hi).len))
  have HSL := Lib.hid (fun k => sumI_le (B := 1000) hN k)
  have HN := Lib.hid hN
  clear hc hr hN
  go_enter Try.func52, Try.ntmps52
  go_wp2
  go_loopw [3, 5, 11] (fun sz _u i wr => ∃ k : Nat, k ≤ M ∧ i = .int .i64 k ∧ sz = .int .i64 ((sumI N k : Nat) : Int) ∧ w = wr) (fun _ _ i _ => M - (intOf i).toNat)
  case atStart => exact ⟨0, Nat.zero_le _, rfl, rfl, rfl⟩
  case round =>
    obtain ⟨k, hk, rfl, rfl, rfl⟩ := hrel
    by_cases hlt : k < M
    · have hck := HC.out k hlt
      have h1 := HSL.out k
      have h2 := HN.out k
      have h3 : k * 1000 ≤ 10000 := by omega
      have hsn : sumI N (k + 1) = sumI N k + N k := rfl
      have HSN := Lib.hid hsn
      generalize sumI N k = s at h1 hsn HSN ⊢
      generalize N k = nk at h2 hsn HSN hck
      have hw1 : IntKind.i64.wrap ((s : Int) + (nk : Int)) = (s : Int) + (nk : Int) := by rw [IntKind.wrap_i64]; omega
      have hw2 : ¬ ((s : Int) + (nk : Int) < 0) := by omega
      clear hsn h1 h2 h3
      go_wp2
      go_roundw
      case rel => exact ⟨k + 1, by omega, by go_num, by rw [HSN.out]; simp, by first | rfl | trivial⟩
      case measure => simp [intOf]; omega
    · have hkn : k = M := by omega
      subst hkn
      have h1 := HSL.out k
      have HGROW := Lib.hid (growI_any (sumI N k) w hpos (by omega))
      clear h1
      go_wp2_with fail
      refine HGROW.out.mono ?_
      rintro e w1 m1
      obtain ⟨pg, cg, rfl, og, -, bg⟩ := m1.get
      have OG := Lib.hid og
      have BG := Lib.hid bg
      clear m1 og bg HGROW
      go_wp2
      go_loopw [6, 8, 27] (fun s _u i wr => ∃ (q : Nat) (v : Value), q ≤ k ∧ v = s ∧ i = .int .i64 q ∧ Hid (Own 2 wr w.heap.size v (catI T q)) ∧ Hid (Below w.heap.size w wr)) (fun _ _ i _ => k - (intOf i).toNat)
      case atStart => exact ⟨0, _, Nat.zero_le _, rfl, rfl, OG.out, BG.out⟩
      case round =>
        clear OG BG
        obtain ⟨q, v, hq, rfl, rfl, HO, HB⟩ := hrel
        by_cases hqk : q < k
        · have hck := (HB.out.cell (p := ⟨G, q, none⟩) hG).trans (HC.out q hqk)
          have hrk := (HR.out q hqk).below HB.out
          have hlen : (catI T q).length + N q ≤ 4294967296 := by have h1 := HTL.out q (by omega); have h2 := HSL.out q; have h3 := HN.out q; omega
          have HE := Lib.hid (show catI T (q + 1) = catI T q ++ T q from rfl)
          have HRK := Lib.hid hrk
          have hbs := HB.out.size
          generalize N q = nq at hck HRK hlen
          generalize C q = cq at hck
          generalize A q = aq at hck HRK
          clear hrk
          go_wp2_with (at_builtin; go_loud (refine append_list _ rfl (.tmp 31) (.tmp 32) rfl w.heap.size Try.underlying24 info64 v (catI T q) rfl HO.out aq nq cq (T q) rfl HRK.out hlen hbs ?_); intro v2 w2 o2 b2)
          rw [← HE.out] at o2
          have HO2 := Lib.hid o2; have HB2 := Lib.hid (HB.out.trans b2)
          clear o2 b2
          go_roundw
          case rel => exact ⟨q + 1, v2, by omega, rfl, by go_num, HO2, HB2⟩
          case measure => simp [intOf]; omega
        · have hqn : q = k := by omega
          subst hqn
          go_wp2
          go_ret
          exact ⟨v, rfl, HO.out, HB.out⟩
end Go.Proofs.Ytilkopbfbmibgaa
