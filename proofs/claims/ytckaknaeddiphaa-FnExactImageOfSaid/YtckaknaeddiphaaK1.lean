/-
  Chapter 9: the parts of a list, as the program's iterator hands them over.
-/
import Derived.Test.YtckaknaeddiphaaRng
import Derived.Test.YtckaknaeddiphaaOne
import Derived.Test.YtckaknaeddiphaaBase
namespace Go.Proofs.Ytckaknaeddiphaa
open Go.RowKit Go.Shelf
attribute [local go_sem] Oper.semAt_some

theorem partsOf_any (ao : Option Addr) (n cap L : Nat) (w : World) : Calls Try.prog 40 #[.slice ao n cap, .int .i64 L] w fun e w' =>
    e = .returned (.func (.func 56) #[] #[.pointer (some ⟨w.heap.size, 0, none⟩), .pointer (some ⟨w.heap.size + 1, 0, none⟩)]) ∧ w' = (w.alloc (.cells #[.slice ao n cap] 24)).alloc (.cells #[.int .i64 L] 3) := by
  go_enter Try.func40, Try.ntmps40
  go_wp2
  go_ret
  exact ⟨rfl, rfl⟩
/-- The k-th part that is handed over. -/
def partVal (w : World) (xs : List Int) (L k : Nat) (x : Nat × Option Addr × Nat × Nat) : Prop :=
  x.1 = k ∧ Rd w x.2.1 x.2.2.1 ((xs.drop (L * k)).take L) ∧ x.2.2.1 ≤ x.2.2.2 ∧ x.2.2.2 ≤ 9223372036854775807
def partEnc (x : Nat × Option Addr × Nat × Nat) : Array Value := #[.int .i64 (x.1 : Int), .slice x.2.1 x.2.2.1 x.2.2.2]
set_option maxRecDepth 100000 in
set_option maxHeartbeats 2000000 in
theorem parts_in (l b1 b2 L N n cap : Nat) (ao : Option Addr) (xs : List Int) (w : World) (hr : Rd w ao n xs) (hcap : n ≤ cap) (hcap2 : cap ≤ 9223372036854775807) (hn : n ≤ 1048576) (hL : 1 ≤ L) (hL2 : L ≤ 1000) (h1 : 1 ≤ N) (hN9 : N ≤ 1048577) (hN : ∀ k, k < N → (k + 1 < N ↔ L * (k + 1) < n))
    (M : Nat → Obj → Prop) (hM2 : M b2 (.cells #[.int .i64 (L : Int)] 3 (0, 0))) (hl : b2 ≠ l) (J Jx : Nat → World → Prop) (W : World) (c1 : Boxed W b1 24 (.slice ao n cap)) (c2 : Boxed W b2 3 (.int .i64 L))
    (hY : ∀ k x W1, k < N → partVal w xs L k x → J k W1 → YieldAt Fence.wide 7 Try.prog l (partEnc x) W1 fun e W' => Keeps (fun k o => k ≠ l ∧ M k o) W1 W' ∧
      ((e = .returned (.bool true) ∧ J (k + 1) W') ∨ (e = .returned (.bool false) ∧ Jx (k + 1) W'))) (h0 : J 0 W) :
    CallsIn Fence.wide 8 Try.prog 56 #[.func (.yield l) #[] #[], .pointer (some ⟨b1, 0, none⟩), .pointer (some ⟨b2, 0, none⟩)] W fun e W' => (∃ v, e = .returned v) ∧ (J N W' ∨ ∃ k, 1 ≤ k ∧ k ≤ N ∧ Jx k W') := by
  refine callsIn_of_wp Try.func56 rfl trivial ?_ rfl
  simp only [Try.ntmps56, List.size_toArray, List.length_cons, List.length_nil, Nat.reduceAdd, Nat.reduceSub, Array.replicate_succ, Array.replicate_zero, List.push_toArray, List.append_toArray, List.nil_append, List.cons_append]
  have d1 := c1.cell
  gi_wp2
  gi_loopw [4, 5] (fun rest i wr => ∃ k m c : Nat, ∃ a : Option Addr, k < N ∧ i = .int .i64 (k : Int) ∧ rest = .slice a m c ∧ Hid (Rd w a m (xs.drop (L * k)) ∧ m ≤ c ∧ c ≤ 9223372036854775807 ∧ m ≤ 1048576) ∧ J k wr ∧ Boxed wr b2 3 (.int .i64 L))
    (fun _ i _ => N - (intOf i).toNat)
  case atStart => exact ⟨0, n, cap, ao, by omega, rfl, rfl, ⟨by simpa using hr, hcap, hcap2, hn⟩, h0, c2⟩
  case round =>
    obtain ⟨k, m, c, a, hk, rfl, rfl, ⟨hrd, hmc, hc9, hm1⟩, hJ, c2⟩ := hrel
    have d2 := c2.cell
    have hml : xs.length - L * k = m := by have := hrd.len; rwa [List.length_drop] at this
    have hnl : xs.length = n := hr.len
    have hiff := hN k hk
    by_cases hlast : k + 1 < N
    · have hlt := hiff.1 hlast
      have hLk : L * (k + 1) = L * k + L := Nat.mul_succ L k
      obtain ⟨r, rfl⟩ : ∃ r, m = r + 1 + L := ⟨m - L - 1, by omega⟩
      obtain ⟨e, rfl⟩ : ∃ e, c = e + 1 + L := ⟨c - L - 1, by omega⟩
      obtain ⟨fn, tmps, assign, body, hy, hR⟩ := hY k (k, a, L, e + 1 + L) wr hk ⟨rfl, hrd.head9 (a := L) (by omega), by dsimp only; omega, by dsimp only; omega⟩ hJ
      dsimp only [partEnc] at hy
      have HT := Lib.hid (hrd.tail9 (a := L) (m := r + 1) rfl)
      rw [List.drop_drop, ← Nat.mul_succ] at HT
      have hb9 : Hid (e + 1 ≤ 9223372036854775807 ∧ r + 1 ≤ e + 1 ∧ r + 1 ≤ 1048576) := ⟨by omega, by omega, by omega⟩
      have hmin : min (L : Int) ((r + 1 + L : Nat) : Int) = (L : Int) := by omega
      have hr0 : (((r + 1 : Nat) : Int) == 0) = false := by simp; omega
      clear hrd hml hnl hiff hmc hm1
      gi_wp2
      refine hR.mono ?_
      rintro e W3 ⟨hkp, (⟨rfl, hJ3⟩ | ⟨rfl, hJx3⟩)⟩
      · gi_wp2
        go_roundw
        case rel => exact ⟨k + 1, _, _, _, hlast, by push_cast; rfl, rfl, ⟨HT.out, hb9.out.2.1, hb9.out.1, hb9.out.2.2⟩, hJ3, hkp.boxed c2 ⟨hl, hM2⟩⟩
        case measure => simp [intOf]; omega
      · gi_wp2
        refine bodyPost_ret (results_none rfl _ _ _) rfl ?_
        exact ⟨⟨_, rfl⟩, .inr ⟨k + 1, by omega, by omega, hJx3⟩⟩
    · have hlast2 : k + 1 = N := by omega
      have hm : m ≤ L := by
        have hLk : L * (k + 1) = L * k + L := Nat.mul_succ L k
        have := mt hiff.2 hlast
        omega
      have ht : (xs.drop (L * k)).take L = xs.drop (L * k) := List.take_of_length_le (by rw [List.length_drop]; omega)
      obtain ⟨fn, tmps, assign, body, hy, hR⟩ := hY k (k, a, m, c) wr hk ⟨rfl, by rw [ht]; exact hrd, by dsimp only; omega, by dsimp only; omega⟩ hJ
      dsimp only [partEnc] at hy
      clear hrd hml hnl hiff hm1 ht
      rcases Nat.lt_or_eq_of_le hm with hmL | rfl
      · have hmin : min (L : Int) (m : Int) = (m : Int) := by omega
        have hle : ¬ (L : Int) ≤ (m : Int) := by omega
        by_cases hcm : c = m
        · subst hcm
          gi_wp2
          all_goals
            refine hR.mono ?_
            rintro e W3 ⟨hkp, (⟨rfl, hJ3⟩ | ⟨rfl, hJx3⟩)⟩
            · gi_wp2
              refine bodyPost_ret (results_none rfl _ _ _) rfl ?_
              exact ⟨⟨_, rfl⟩, .inl (hlast2 ▸ hJ3)⟩
            · gi_wp2
              refine bodyPost_ret (results_none rfl _ _ _) rfl ?_
              exact ⟨⟨_, rfl⟩, .inr ⟨k + 1, by omega, by omega, hJx3⟩⟩
        · obtain ⟨e, rfl⟩ : ∃ e, c = e + 1 + m := ⟨c - m - 1, by omega⟩
          clear hcm
          gi_wp2
          all_goals
            refine hR.mono ?_
            rintro e W3 ⟨hkp, (⟨rfl, hJ3⟩ | ⟨rfl, hJx3⟩)⟩
            · gi_wp2
              refine bodyPost_ret (results_none rfl _ _ _) rfl ?_
              exact ⟨⟨_, rfl⟩, .inl (hlast2 ▸ hJ3)⟩
            · gi_wp2
              refine bodyPost_ret (results_none rfl _ _ _) rfl ?_
              exact ⟨⟨_, rfl⟩, .inr ⟨k + 1, by omega, by omega, hJx3⟩⟩
      · by_cases hcm : c = m
        · subst hcm
          gi_wp2
          all_goals
            refine hR.mono ?_
            rintro e W3 ⟨hkp, (⟨rfl, hJ3⟩ | ⟨rfl, hJx3⟩)⟩
            · gi_wp2
              refine bodyPost_ret (results_none rfl _ _ _) rfl ?_
              exact ⟨⟨_, rfl⟩, .inl (hlast2 ▸ hJ3)⟩
            · gi_wp2
              refine bodyPost_ret (results_none rfl _ _ _) rfl ?_
              exact ⟨⟨_, rfl⟩, .inr ⟨k + 1, by omega, by omega, hJx3⟩⟩
        · obtain ⟨e, rfl⟩ : ∃ e, c = e + 1 + m := ⟨c - m - 1, by omega⟩
          clear hcm
          gi_wp2
          all_goals
            refine hR.mono ?_
            rintro e W3 ⟨hkp, (⟨rfl, hJ3⟩ | ⟨rfl, hJx3⟩)⟩
            · gi_wp2
              refine bodyPost_ret (results_none rfl _ _ _) rfl ?_
              exact ⟨⟨_, rfl⟩, .inl (hlast2 ▸ hJ3)⟩
            · gi_wp2
              refine bodyPost_ret (results_none rfl _ _ _) rfl ?_
              exact ⟨⟨_, rfl⟩, .inr ⟨k + 1, by omega, by omega, hJx3⟩⟩
theorem parts_seq (b1 b2 L N n cap : Nat) (ao : Option Addr) (xs : List Int) (w w0 : World) (hr : Rd w ao n xs) (hcap : n ≤ cap) (hcap2 : cap ≤ 9223372036854775807) (hn : n ≤ 1048576) (hL : 1 ≤ L) (hL2 : L ≤ 1000) (h1 : 1 ≤ N) (hN9 : N ≤ 1048577) (hN : ∀ k, k < N → (k + 1 < N ↔ L * (k + 1) < n))
    (M : Nat → Obj → Prop) (hM2 : M b2 (.cells #[.int .i64 (L : Int)] 3 (0, 0))) (c1 : Boxed w0 b1 24 (.slice ao n cap)) (c2 : Boxed w0 b2 3 (.int .i64 L)) :
    SeqR 8 Try.prog 56 #[.pointer (some ⟨b1, 0, none⟩), .pointer (some ⟨b2, 0, none⟩)] partEnc (partVal w xs L) M N w0 := fun l J Jx W hW hl1 _ _ _ hY h0 =>
  parts_in l b1 b2 L N n cap ao xs w hr hcap hcap2 hn hL hL2 h1 hN9 hN M hM2 (by have := c2.lt; omega) J Jx W (boxed_below c1 hW) (boxed_below c2 hW) hY h0
end Go.Proofs.Ytckaknaeddiphaa
