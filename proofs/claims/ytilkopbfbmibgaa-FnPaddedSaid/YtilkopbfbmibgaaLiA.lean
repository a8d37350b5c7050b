/-
  Chapter 18: PadLine, on both sides; slices.Concat of some lists of numbers, none of them too long together.
-/
import Derived.Test.YtilkopbfbmibgaaLi9
namespace Go.Proofs.Ytilkopbfbmibgaa
open Go.RowKit

theorem pl_1 {xs : List Int} {b a : Int} (h : isBits xs = false) : padLine xs b a = ([], 1) := by unfold padLine; rw [if_pos h]
theorem pl_2 {xs : List Int} {b a : Int} (h : isBits xs = true) (h2 : ¬ ((0 ≤ b ∧ b ≤ 8192) ∧ 0 ≤ a ∧ a ≤ 8192)) : padLine xs b a = ([], 2) := by unfold padLine; rw [if_neg (by rw [h]; simp), if_pos h2]
theorem pl_3 {xs : List Int} {b a : Int} (h : isBits xs = true) (h2 : (0 ≤ b ∧ b ≤ 8192) ∧ 0 ≤ a ∧ a ≤ 8192) (h3 : 8192 < (xs.length : Int) + b + a) : padLine xs b a = ([], 3) := by unfold padLine; rw [if_neg (by rw [h]; simp), if_neg (by simp [h2]), if_pos h3]
theorem pl_0 {xs : List Int} {b a : Nat} (h : isBits xs = true) (h3 : xs.length + b + a ≤ 8192) : padLine xs b a = (List.replicate b 1 ++ xs ++ List.replicate a 1, 0) := by
  unfold padLine; rw [if_neg (by rw [h]; simp), if_neg (by simp; omega), if_neg (by omega), Int.toNat_natCast, Int.toNat_natCast]
theorem padLine_len (xs : List Int) (b a : Int) : (padLine xs b a).1.length ≤ 8192 := by
  unfold padLine
  split
  · simp
  · split
    · simp
    · split
      · simp
      · simp only [List.length_append, List.length_replicate]; omega
theorem inR_iff {hi x : Int} : inR hi x = true ↔ 0 ≤ x ∧ x ≤ hi := by simp [inR]
theorem inR_false {hi x : Int} (h : ¬ (0 ≤ x ∧ x ≤ hi)) : inR hi x = false := by
  rcases hq : inR hi x with _ | _
  · rfl
  · exact absurd (inR_iff.1 hq) h
def tri {α : Type} (x y z : α) : Nat → α | 0 => x | 1 => y | _ => z
theorem pads_eq (b a : Nat) (xs : List Int) : catI (tri (List.replicate b 1) xs (List.replicate a 1)) 3 = List.replicate b 1 ++ xs ++ List.replicate a 1 := by simp [catI, tri]
theorem sumI_tri {u n v : Nat} (h : n + u + v ≤ 8192) : ∀ k, k ≤ 3 → sumI (tri u n v) k ≤ 20000 := by
  intro k hk
  match k, hk with
  | 0, _ => simp [sumI]
  | 1, _ => simp [sumI, tri]; omega
  | 2, _ => simp [sumI, tri]; omega
  | 3, _ => simp [sumI, tri]; omega
theorem pads_cat (ao : Option Addr) (cap : Nat) (xs : List Int) (u v : Nat) (w w1 w2 : World) (a1 a2 : Option Addr) (c1 c2 : Nat) (hr : Rd w ao xs.length xs) (b1 : Below w.heap.size w w1) (r1 : Rd w1 a1 u (List.replicate u 1)) (b2 : Below w1.heap.size w1 w2) (r2 : Rd w2 a2 v (List.replicate v 1)) (h : xs.length + u + v ≤ 8192) :
    Calls Try.prog 52 #[.slice (some ⟨w2.heap.size, 0, none⟩) 3 3] (w2.alloc (.cells #[.slice a1 u c1, .slice ao xs.length cap, .slice a2 v c2] 24)) fun e w' => ∃ q, e = .returned q ∧ Own 2 w' w.heap.size q (List.replicate u 1 ++ xs ++ List.replicate v 1) ∧ Below w.heap.size w w' := by
  have hal : Below w2.heap.size w2 (w2.alloc (.cells #[.slice a1 u c1, .slice ao xs.length cap, .slice a2 v c2] 24)) := (Below.refl _ _).alloc (Nat.le_refl _) _
  have hB : Below w.heap.size w (w2.alloc (.cells #[.slice a1 u c1, .slice ao xs.length cap, .slice a2 v c2] 24)) := (below_two b1 b2).trans (hal.mono (Nat.le_trans b1.size b2.size))
  have hs := hB.size
  have hB1 : Below w1.heap.size w1 (w2.alloc (.cells #[.slice a1 u c1, .slice ao xs.length cap, .slice a2 v c2] 24)) := b2.trans (hal.mono b2.size)
  have hq := concatB_any w2.heap.size 3 3 (tri a1 ao a2) (tri u xs.length v) (tri c1 cap c2) (tri (List.replicate u 1) xs (List.replicate v 1)) (w2.alloc (.cells #[.slice a1 u c1, .slice ao xs.length cap, .slice a2 v c2] 24)) (by omega)
    (fun i hi => by
      match i, hi with
      | 0, _ => rw [World.cell?_alloc_at _ _ _ _ (by simp)]; rfl
      | 1, _ => rw [World.cell?_alloc_at _ _ _ _ (by simp)]; rfl
      | 2, _ => rw [World.cell?_alloc_at _ _ _ _ (by simp)]; rfl)
    (fun i hi => by
      match i, hi with
      | 0, _ => exact r1.below hB1
      | 1, _ => exact hr.below hB
      | 2, _ => exact r2.below hal)
    (sumI_tri h) (by simp)
  rw [pads_eq] at hq
  refine hq.mono ?_
  rintro e w4 m4
  obtain ⟨q, cq, rfl, o4, -, b4⟩ := m4.get
  exact ⟨_, rfl, o4.more hs, hB.trans (b4.mono hs)⟩
set_option maxHeartbeats 1000000 in
theorem padLine_any (ao : Option Addr) (cap : Nat) (xs : List Int) (b a : Int) (w : World) (hr : Rd w ao xs.length xs) (hn : xs.length ≤ 1048576) :
    Calls Try.prog 20 #[.slice ao xs.length cap, .int .i64 b, .int .i64 a] w (Makes2 2 w (padLine xs b a).1 (padLine xs b a).2) := by
  rcases hb : isBits xs with _ | _
  · rw [pl_1 hb]
    have HB := Lib.hid hb; clear hb
    go_enter Try.func20, Try.ntmps20
    go_wp2_with (go_at_call 50; refine (isBits_any _ _ _ _ _ hr (by omega)).mono ?_; rintro e w' ⟨rfl, rfl⟩; rw [HB.out])
    go_ret2
    exact ⟨_, rfl, Own.nil_, Below.refl _ _⟩
  have hlen := (isBits_iff.1 hb).1
  by_cases h1 : 0 ≤ b ∧ b ≤ 8192
  rotate_left
  · rw [pl_2 hb (fun h => h1 h.1)]
    have HB := Lib.hid hb; have H1 := Lib.hid (inR_false h1); clear hb h1
    go_enter Try.func20, Try.ntmps20
    go_wp2_with (first
      | (go_at_call 50; refine (isBits_any _ _ _ _ _ hr (by omega)).mono ?_; rintro e w' ⟨rfl, rfl⟩; rw [HB.out])
      | (go_at_call 51; refine (isBitCount_any _ _).mono ?_; rintro e w' ⟨rfl, rfl⟩; rw [H1.out]))
    go_ret2
    exact ⟨_, rfl, Own.nil_, Below.refl _ _⟩
  by_cases h2 : 0 ≤ a ∧ a ≤ 8192
  rotate_left
  · rw [pl_2 hb (fun h => h2 h.2)]
    have HB := Lib.hid hb; have H1 := Lib.hid (inR_iff.2 h1); have H2 := Lib.hid (inR_false h2); clear hb h1 h2
    go_enter Try.func20, Try.ntmps20
    go_wp2_with (first
      | (go_at_call 50; refine (isBits_any _ _ _ _ _ hr (by omega)).mono ?_; rintro e w' ⟨rfl, rfl⟩; rw [HB.out])
      | (go_at_call_of 51 (Value.int IntKind.i64 b); refine (isBitCount_any b _).mono ?_; rintro e w' ⟨rfl, rfl⟩; rw [H1.out])
      | (go_at_call 51; refine (isBitCount_any a _).mono ?_; rintro e w' ⟨rfl, rfl⟩; rw [H2.out]))
    go_ret2
    exact ⟨_, rfl, Own.nil_, Below.refl _ _⟩
  obtain ⟨u, rfl⟩ := Int.eq_ofNat_of_zero_le h1.1
  obtain ⟨v, rfl⟩ := Int.eq_ofNat_of_zero_le h2.1
  have hw1 : IntKind.i64.wrap ((u : Int) + (xs.length : Int)) = (u : Int) + (xs.length : Int) := by rw [IntKind.wrap_i64]; omega
  have hw2 : IntKind.i64.wrap ((u : Int) + (xs.length : Int) + (v : Int)) = (u : Int) + (xs.length : Int) + (v : Int) := by rw [IntKind.wrap_i64]; omega
  have HC := fun (x : Nat) (h : 0 ≤ (x : Int) ∧ (x : Int) ≤ 8192) (W : World) => isBitCount_any (x : Int) W
  have H1 := Lib.hid (inR_iff.2 h1); have H2 := Lib.hid (inR_iff.2 h2)
  clear HC
  by_cases h3 : xs.length + u + v ≤ 8192
  rotate_left
  · rw [pl_3 hb ⟨h1, h2⟩ (by omega)]
    have HB := Lib.hid hb; clear hb
    go_enter Try.func20, Try.ntmps20
    go_wp2_with (first
      | (go_at_call 50; refine (isBits_any _ _ _ _ _ hr (by omega)).mono ?_; rintro e w' ⟨rfl, rfl⟩; rw [HB.out])
      | (go_at_call_of 51 (Value.int IntKind.i64 (u : Int)); refine (isBitCount_any (u : Int) _).mono ?_; rintro e w' ⟨rfl, rfl⟩; rw [H1.out])
      | (go_at_call 51; refine (isBitCount_any (v : Int) _).mono ?_; rintro e w' ⟨rfl, rfl⟩; rw [H2.out]))
    go_ret2
    exact ⟨_, rfl, Own.nil_, Below.refl _ _⟩
  rw [pl_0 hb h3]
  have HB := Lib.hid hb; clear hb
  have HR := Lib.hid hr; clear hr
  have HCC := Lib.hid (fun (w1 w2 : World) (a1 a2 : Option Addr) (c1 c2 : Nat) (b1 : Below w.heap.size w w1) (r1 : Rd w1 a1 u (List.replicate u 1)) (b2 : Below w1.heap.size w1 w2) (r2 : Rd w2 a2 v (List.replicate v 1)) => pads_cat ao cap xs u v w w1 w2 a1 a2 c1 c2 HR.out b1 r1 b2 r2 h3)
  go_enter Try.func20, Try.ntmps20
  go_wp2_with (first
    | (go_at_call 50; refine (isBits_any _ _ _ _ _ HR.out (by omega)).mono ?_; rintro e w' ⟨rfl, rfl⟩; rw [HB.out])
    | (go_at_call_of 51 (Value.int IntKind.i64 (u : Int)); refine (isBitCount_any (u : Int) _).mono ?_; rintro e w' ⟨rfl, rfl⟩; rw [H1.out])
    | (go_at_call 51; refine (isBitCount_any (v : Int) _).mono ?_; rintro e w' ⟨rfl, rfl⟩; rw [H2.out])
    | (go_at_call_of 53 (Value.int IntKind.i64 (u : Int)); refine (idleCells_any u _ (by omega)).mono ?_; rintro e w1 m1; obtain ⟨a1, c1, rfl, o1, r1, b1⟩ := m1.get; rw [List.length_replicate] at r1)
    | (go_at_call 53; refine (idleCells_any v _ (by omega)).mono ?_; rintro e w2 m2; obtain ⟨a2, c2, rfl, o2, r2, b2⟩ := m2.get; rw [List.length_replicate] at r2))
  refine (HCC.out w1 w2 a1 a2 c1 c2 b1 r1 b2 r2).mono ?_
  rintro e w4 ⟨v4, rfl, o4, b4⟩
  go_wp2
  go_ret2
  exact ⟨_, rfl, o4, b4⟩
end Go.Proofs.Ytilkopbfbmibgaa
