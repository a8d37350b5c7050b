/-
  slices.Repeat of one number, the high cells.
-/
import Derived.Test.YtilkopbfbmibgaaLi2
import Derived.Deep.RegionLaw
import Derived.Deep.Cut
import Derived.Deep.DeepCutAuto
import Derived.Laws.CopyOwn
import Derived.Laws.BitsAllLaws
namespace Go.Proofs.Ytilkopbfbmibgaa
open Go.RowKit

theorem and32 (n : Nat) (hn : n ≤ 8192) : bits .and .u64 (n : Int) 4294967295 = n := by
  have := u64_and_nat n 4294967295 (by omega) (by omega)
  rw [nat_mask32, Nat.mod_eq_of_lt (by omega)] at this
  exact this
theorem mul64_one (n : Nat) (w : World) (hn : n ≤ 8192) : Calls Try.prog 80 #[.int .u64 1, .int .u64 n] w fun e w' => e = .returned (.tuple #[.int .u64 0, .int .u64 n]) ∧ w = w' := by
  have h1 := and32 n hn
  have h2 : bits .and .u64 1 4294967295 = 1 := and32 1 (by omega)
  have h3 : bits .and .u64 0 4294967295 = 0 := and32 0 (by omega)
  have hq : (n : Int) / 4294967296 = 0 := by omega
  go_enter Try.func80, Try.ntmps80
  go_wp2
  go_ret2
  exact ⟨rfl, rfl⟩
theorem mul_one (n : Nat) (w : World) (hn : n ≤ 8192) : Calls Try.prog 74 #[.int .u64 1, .int .u64 n] w fun e w' => e = .returned (.tuple #[.int .u64 0, .int .u64 n]) ∧ w = w' := by
  go_enter Try.func74, Try.ntmps74
  go_wp2_with (go_at_call 80; refine (mul64_one n _ hn).mono ?_; rintro e w' ⟨rfl, rfl⟩)
  go_ret2
  exact ⟨rfl, rfl⟩
/-! ### a row of ones, half done -/
def rowO (N k : Nat) : List Value := List.replicate k (Value.int .i64 1) ++ List.replicate (N - k) (Value.int .i64 0)
theorem rowO_len {N k : Nat} (h : k ≤ N) : (rowO N k).length = N := by simp [rowO]; omega
theorem rowO_splice {N k m : Nat} (h : k + m ≤ N) : splice (rowO N k) k (List.replicate m (Value.int .i64 1)) = rowO N (k + m) := by
  unfold splice rowO
  rw [List.length_replicate, List.take_append_of_le_length (by simp), List.take_of_length_le (by simp), ← List.append_assoc, List.replicate_append_replicate]
  congr 1
  rw [List.drop_append, List.drop_of_length_le (by simp), List.nil_append, List.length_replicate, List.drop_replicate]
  congr 1
  omega
theorem rowO_get {N k j : Nat} (h : j < k) : (rowO N k)[j]? = some (Value.int .i64 1) := by
  unfold rowO
  rw [List.getElem?_append_left (by simpa using h)]
  simp [h]
theorem rowO_full (N : Nat) : rowO N N = (List.replicate N (1 : Int)).map (Value.int .i64) := by simp [rowO]
theorem rowO_none (N : Nat) : rowO N 0 = (List.replicate N (0 : Int)).map (Value.int .i64) := by simp [rowO]
/-- A row made whole. -/
theorem own_raw {E base g n : Nat} {w : World} {xs : List Int} (h : Own E w base (.slice (some ⟨g, 0, none⟩) n n) xs) (hl : xs.length = n) : w.heap[g]? = some (.cells (xs.map (Value.int .i64)).toArray E (0, 0)) ∧ base ≤ g ∧ n ≤ maxLen := by
  obtain ⟨h1, h2⟩ := h
  rcases h2 with ⟨h2, _⟩ | ⟨g', cap', cur, h2, hbg, hh, hn, hcap, hsz, htake⟩
  · cases h2
  simp only [Value.slice.injEq, Option.some.injEq, Addr.mk.injEq, and_true] at h2
  obtain ⟨rfl, -, rfl⟩ := h2
  refine ⟨?_, hbg, hcap⟩
  rw [hh]
  congr 2
  have : cur.toList = xs.map (Value.int .i64) := by
    rw [← htake, hl, List.take_of_length_le (by simp [hsz])]
  rw [← this]
theorem own_of_raw {E base g n : Nat} {w : World} {xs : List Int} (h : w.heap[g]? = some (.cells (xs.map (Value.int .i64)).toArray E (0, 0))) (hb : base ≤ g) (hl : xs.length = n) (hm : n ≤ maxLen) : Own E w base (.slice (some ⟨g, 0, none⟩) n n) xs := by
  subst hl
  exact ⟨by simp, .inr ⟨g, xs.length, _, rfl, hb, h, Nat.le_refl _, hm, by simp, by rw [Nat.mul_one, List.toList_toArray, List.take_of_length_le (by simp)]⟩⟩
theorem raw_cell {T g j : Nat} {w : World} {cur : List Value} {v : Value} (h : w.heap[g]? = some (.cells cur.toArray T (0, 0))) (hj : cur[j]? = some v) : w.cell? ⟨g, j, none⟩ = some v := by
  rw [cell_of_row w g j _ _ (0, 0) h]
  simpa using hj
theorem ones_cell (m : Nat) : ∀ v ∈ List.replicate m (Value.int .i64 1), v.oneCell' = true := by
  intro v hv
  rw [(List.mem_replicate.1 hv).2]
  rfl
set_option maxHeartbeats 400000 in
/-- slices.Repeat of a list that is the number 1. -/
theorem repeat_any (xo : Option Addr) (c N : Nat) (w : World) (hr : Rd w xo 1 [1]) (hN : N ≤ 8192) :
    Calls Try.prog 67 #[.slice xo 1 c, .int .i64 N] w (Makes 2 w (List.replicate N 1)) := by
  obtain ⟨bx, ox, rfl, hc⟩ := hr.here (by omega)
  have hx : w.cell? ⟨bx, ox, none⟩ = some (.int .i64 1) := by have := hc 0 (by omega); simpa using this
  have HX := Lib.hid hx
  have hbx : bx < w.heap.size := World.block_lt_of_cell? w _ hx
  clear hc hx hr
  have hmin : (List.replicate (min 1 N) (Value.int .i64 1)).length = Nat.min 1 N := by simp
  have hw0 : IntKind.u64.wrap (N : Int) = (N : Int) := by rw [IntKind.wrap_u64]; omega
  have hw1 : IntKind.i64.wrap (N : Int) = (N : Int) := by rw [IntKind.wrap_i64]; omega
  go_enter Try.func67, Try.ntmps67
  go_upto_region 8 with (first
    | (go_at_call 74; refine (mul_one N _ hN).mono ?_; rintro e w' ⟨rfl, rfl⟩)
    | (at_make; refine make_cap _ rfl _ _ rfl w.heap.size Try.underlying24 info64 _ _ _ _ N N rfl rfl rfl rfl (Nat.le_refl _) (by omega) (Nat.le_refl _) ?_; intro w1 o1 b1; obtain ⟨hraw, hg, hml⟩ := own_raw o1 (by simp); clear o1; rw [← rowO_none] at hraw)
    | (refine wpList_copy_splice rfl (.tmp 31) (.tmp 32) 24 24 rfl 2 Try.underlying24 (by kernel_rfl) _ _ _ _ _ _ rfl rfl w.heap.size 0 (rowO N 0) 2 hraw (List.replicate (min 1 N) (Value.int .i64 1)) hmin (fun _ => ⟨rfl, ⟨bx, ox, none⟩, rfl, fun j v hj => by
        obtain ⟨hj1, rfl⟩ := List.getElem?_eq_some_iff.1 hj
        have : j = 0 := by simp at hj1; omega
        subst this
        simpa [Addr.add] using (b1.cell (p := ⟨bx, ox, none⟩) hbx).trans HX.out⟩) (by rw [rowO_len (Nat.zero_le _)]; simp; omega) (ones_cell _) w.heap.size w b1 (Nat.le_refl _) ?_; intro w2 h2 b2))
  rw [rowO_splice (by omega)] at h2
  rw [show (0 + min 1 N) = min 1 N from Nat.zero_add _] at h2
  have H2 := Lib.hid h2; have B2 := Lib.hid b2; have HML := Lib.hid hml
  clear hraw b1 h2 b2 hmin hw0 hw1 hml hg
  go_loopw [8] (fun i wr => ∃ k : Nat, k ≤ N ∧ (0 < N → 0 < k) ∧ i = .int .i64 k ∧ Hid (wr.heap[w.heap.size]? = some (.cells (rowO N k).toArray 2 (0, 0))) ∧ Hid (Below w.heap.size w wr)) (fun i _ => N - (intOf i).toNat)
  case atStart => exact ⟨min 1 N, by omega, by omega, by simp, H2, B2⟩
  case round =>
    clear H2 B2
    obtain ⟨k, hk, hpos, rfl, HW, HB⟩ := hrel
    by_cases hlt : k < N
    · have hne : ¬ N = k := by omega
      obtain ⟨m, hm⟩ : ∃ m, m = min k (N - k) := ⟨_, rfl⟩
      have hm0 : 0 < m := by omega
      have hmk : m ≤ k := by omega
      have hmn : k + m ≤ N := by omega
      have hml2 : (List.replicate m (Value.int .i64 1)).length = Nat.min k (N - k) := by rw [List.length_replicate]; exact hm
      have HL2 := Lib.hid hml2
      have HFIT : k + (List.replicate m (Value.int .i64 1)).length ≤ (rowO N k).length := by rw [rowO_len hk, List.length_replicate]; omega
      have HF := Lib.hid HFIT
      have HWD : Hid ((World.drew wr).heap[w.heap.size]? = some (.cells (rowO N k).toArray 2 (0, 0))) := Lib.hid HW.out
      have HBD : Hid (Below w.heap.size w (World.drew wr)) := Lib.hid HB.out.drew
      have HC : Hid (∀ j v, (List.replicate m (Value.int .i64 1))[j]? = some v → (World.drew wr).cell? ((Addr.mk w.heap.size 0 none).add j) = some v) := Lib.hid (fun j v hj => by
        obtain ⟨hj1, rfl⟩ := List.getElem?_eq_some_iff.1 hj
        rw [List.getElem_replicate, add_cell, Nat.zero_add]
        exact raw_cell HWD.out (rowO_get (by simp at hj1; omega)))
      clear hm HFIT hml2
      go_upto_region 9 with fail
      go_region_law (refine step_copy_splice rfl (.tmp 41) (.tmp 44) 24 24 rfl 2 Try.underlying24 (by kernel_rfl) (some ⟨w.heap.size, k, none⟩) (some ⟨w.heap.size, 0, none⟩) (N - k) (N - k) k N (by simp [go_sem]) (by simp [go_sem]) w.heap.size k (rowO N k) 2 HWD.out (List.replicate m (Value.int .i64 1)) HL2.out (fun _ => ⟨rfl, ⟨w.heap.size, 0, none⟩, rfl, HC.out⟩) HF.out (ones_cell _) w.heap.size w HBD.out (Nat.le_refl _) ?_; intro w4 hg4 hb4)
      have h5 := hg4.out
      rw [rowO_splice hmn] at h5
      have H5 := Lib.hid h5; have B5 := Lib.hid hb4
      clear h5 hg4 hb4 HC HWD HBD HL2 HF
      have hwr : IntKind.i64.wrap ((k : Int) + (m : Int)) = ((k + m : Nat) : Int) := by rw [IntKind.wrap_i64]; omega
      simp only [Act.put]
      simp [hwr]
      go_roundw
      case rel => exact ⟨_, _, _, _, _, _, _, _, _, _, _, _, _, _, ⟨k + m, by omega, by omega, rfl, H5, B5⟩, rfl⟩
      case measure => simp [intOf]; omega
    · have hkn : k = N := by omega
      subst hkn
      go_wp2
      go_ret
      exact ⟨_, rfl, own_of_raw (by rw [← rowO_full]; exact HW.out) (Nat.le_refl _) (by simp) HML.out, HB.out⟩
/-- impl.idleCells. -/
theorem idleCells_any (N : Nat) (w : World) (hN : N ≤ 8192) : Calls Try.prog 53 #[.int .i64 N] w (Makes 2 w (List.replicate N 1)) := by
  have hR : Rd (w.alloc (.cells #[.int .i64 1] 2)) (some ⟨w.heap.size, 0, none⟩) 1 [1] := by
    obtain ⟨ao, c, e, hr, -⟩ := (Own.of_alloc_one (E := 2) (base := w.heap.size) (w := w) 1 (Nat.le_refl _)).form
    cases e
    exact hr
  have HREP := Lib.hid (repeat_any (some ⟨w.heap.size, 0, none⟩) 1 N _ hR hN)
  have hB : Below w.heap.size w (w.alloc (.cells #[.int .i64 1] 2)) := (Below.refl _ _).alloc (Nat.le_refl _) _
  have HB := Lib.hid hB
  clear hR hB
  go_enter Try.func53, Try.ntmps53
  go_wp2_with (go_at_call 67; refine HREP.out.mono ?_; rintro e w1 m1; obtain ⟨a, cc, rfl, o1, -, b1⟩ := m1.get)
  go_ret
  have ho := o1.more HB.out.size
  rw [List.length_replicate] at ho
  exact ⟨_, rfl, ho, below_step HB.out HB.out.size b1⟩
end Go.Proofs.Ytilkopbfbmibgaa
