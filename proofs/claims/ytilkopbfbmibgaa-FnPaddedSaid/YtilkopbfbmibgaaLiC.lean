/-
  Chapter 18: the model's CellsOf.
-/
import Derived.Test.YtilkopbfbmibgaaLi3
import Derived.Deep.Cut
import Derived.Deep.DeepCutAuto
namespace Go.Proofs.Ytilkopbfbmibgaa
open Go.RowKit

def headL (p : Nat) : List Int := List.replicate p 0 ++ [1]
theorem headL_len (p : Nat) : (headL p).length = p + 1 := by simp [headL]
def cellsTo (xs : List Int) (p k : Nat) : List Int := headL p ++ (xs.take k).flatMap byteCells
theorem cellsTo_zero (xs : List Int) (p : Nat) : cellsTo xs p 0 = headL p := by simp [cellsTo]
theorem cellsTo_succ {xs : List Int} {p k : Nat} (h : k < xs.length) : cellsTo xs p (k + 1) = (cellsTo xs p k ++ [1, 0]) ++ [xs.getD k 0].flatMap (bitsOf · 8) := by
  unfold cellsTo
  rw [take_succ' xs k h, List.flatMap_append]
  simp [byteCells]
theorem cellsTo_all (xs : List Int) (p : Nat) : cellsTo xs p xs.length ++ [0, 1] = cellsL xs p := by
  unfold cellsTo cellsL headL
  rw [List.take_length]
  simp
theorem cellsTo_len {xs : List Int} {p k : Nat} (h : k ≤ xs.length) : (cellsTo xs p k).length = p + 1 + 10 * k := by
  unfold cellsTo
  rw [List.length_append, headL_len, flatCells_len, List.length_take]
  omega
theorem one_of {xs : List Int} {k : Nat} (h : k < xs.length) : (xs.drop k).take 1 = [xs.getD k 0] := by
  rw [List.drop_eq_getElem_cons h, List.take_succ_cons, List.take_zero]
  simp [List.getD, List.getElem?_eq_getElem h]
/-- spec.l18Cells. -/
theorem l18Cells_any (ao : Option Addr) (n cap p : Nat) (xs : List Int) (w : World) (hr : Rd w ao n xs) (hn : n ≤ 1048576) (hcap : n ≤ cap) (hp : p ≤ 1000) :
    Calls Try.prog 49 #[.slice ao n cap, .int .i64 p] w (Makes 2 w (cellsL xs p)) := by
  have HL := Lib.hid hr.len; have HR := Lib.hid hr; clear hr
  go_enter Try.func49, Try.ntmps49
  go_upto_region 3 with (first
    | (at_make; refine make_cap _ rfl _ _ rfl w.heap.size Try.underlying24 info64 _ _ _ _ p p rfl rfl rfl rfl (Nat.le_refl _) (by omega) (Nat.le_refl _) ?_; intro w1 o1 b1)
    | (at_builtin; refine append_one _ rfl (.tmp 8) (.tmp 9) rfl w.heap.size Try.underlying24 info64 _ _ rfl (o1.below ((Below.refl _ _).alloc (Nat.le_refl _) _)) _ _ _ rfl (new_cell rfl) (by rw [List.length_replicate]; omega) (by have := b1.size; simp; omega) ?_; intro v2 w2 o2 b2))
  have HO := Lib.hid (show Own 2 w2 w.heap.size v2 (cellsTo xs p 0) from by rw [cellsTo_zero]; exact o2)
  have HB := Lib.hid ((b1.alloc b1.size _).trans b2)
  clear o1 o2 b1 b2
  go_loopw [5, 6] (fun v i wr => ∃ k : Nat, k ≤ n ∧ i = .int .i64 k ∧ Hid (Own 2 wr w.heap.size v (cellsTo xs p k)) ∧ Hid (Below w.heap.size w wr)) (fun _ i _ => n - (intOf i).toNat)
  case atStart => exact ⟨0, Nat.zero_le _, rfl, HO, HB⟩
  case round =>
    clear HO HB
    obtain ⟨k, hk, rfl, HO, HB⟩ := hrel
    by_cases hlt : k < n
    · have hs := HR.out.slice (a := k) (k := 1) (by omega)
      rw [one_of (by rw [HL.out]; exact hlt)] at hs
      have HS := Lib.hid hs; clear hs
      have HSU := Lib.hid (cellsTo_succ (p := p) (show k < xs.length from by rw [HL.out]; exact hlt))
      have hl1 : (cellsTo xs p k).length + 2 ≤ 4294967296 := by rw [cellsTo_len (by rw [HL.out]; exact hk)]; omega
      have hl2 : (cellsTo xs p k ++ [1, 0]).length + ([xs.getD k 0].flatMap (bitsOf · 8)).length ≤ 4294967296 := by
        rw [List.length_append, cellsTo_len (by rw [HL.out]; exact hk), List.flatMap_cons, List.length_append, bitsOf_len]
        simp
        omega
      have HL2 := Lib.hid hl2; clear hl2
      have hbs := HB.out.size
      have hne : ¬ cap = k := by omega
      obtain ⟨y, hy⟩ : ∃ y, y = xs.getD k 0 := ⟨_, rfl⟩
      rw [← hy] at HS HSU HL2
      clear hy
      have h1 : k + 1 - k = 1 := by omega
      go_wp2_with (first
        | (at_builtin; refine append_list _ rfl (.tmp 17) (.tmp 18) rfl w.heap.size Try.underlying24 info64 _ (cellsTo xs p k) rfl (HO.out.below ((Below.refl _ _).alloc (Nat.le_refl _) _)) _ _ _ [1, 0] rfl (rd_two' _ _ _) hl1 (by simp; omega) ?_; intro v2 w2 o2 b2; have hb2 := (HB.out.alloc hbs _).trans b2)
        | (go_at_call 65; refine (l01Bits_any _ _ [y] _ (HS.out.below hb2) (by simp)).mono ?_; rintro e w3 m3; obtain ⟨a3, c3, rfl, o3, r3, b3⟩ := m3.get; have hb3 := hb2.trans (b3.mono hb2.size))
        | (at_builtin; refine append_list _ rfl (.tmp 20) (.tmp 26) rfl w.heap.size Try.underlying24 info64 _ (cellsTo xs p k ++ [1, 0]) rfl (o2.below b3) _ _ _ ([y].flatMap (bitsOf · 8)) rfl r3 HL2.out hb3.size ?_; intro v4 w4 o4 b4))
      rw [← HSU.out] at o4
      have HO4 := Lib.hid o4; have HB4 := Lib.hid (hb3.trans b4)
      clear o2 o3 o4 r3 b2 b3 b4 hb2 hb3
      go_roundw
      case rel => exact ⟨k + 1, by omega, by go_num, HO4, HB4⟩
      case measure => simp [intOf]; omega
    · have hkn : k = n := by omega
      subst hkn
      have hce := cellsTo_all xs p
      rw [HL.out] at hce
      have HCE := Lib.hid hce; clear hce
      have hl1 : (cellsTo xs p k).length + 2 ≤ 4294967296 := by rw [cellsTo_len (by rw [HL.out]; exact Nat.le_refl _)]; omega
      have hbs := HB.out.size
      go_wp2_with (at_builtin; refine append_list _ rfl (.tmp 28) (.tmp 29) rfl w.heap.size Try.underlying24 info64 _ (cellsTo xs p k) rfl (HO.out.below ((Below.refl _ _).alloc (Nat.le_refl _) _)) _ _ _ [0, 1] rfl (rd_two' _ _ _) hl1 (by simp; omega) ?_; intro v2 w2 o2 b2)
      rw [HCE.out] at o2
      go_ret
      exact ⟨_, rfl, o2, (HB.out.alloc hbs _).trans b2⟩
theorem co_1 {xs : List Int} {p : Int} (h : isBytes xs = false) : cellsOf xs p = ([], 1) := by unfold cellsOf; rw [if_pos h]
theorem co_2 {xs : List Int} {p : Int} (h : isBytes xs = true) (h2 : isPre p = false) : cellsOf xs p = ([], 2) := by unfold cellsOf; rw [if_neg (by rw [h]; simp), if_pos h2]
theorem co_3 {xs : List Int} {p : Int} (h : isBytes xs = true) (h2 : isPre p = true) (h3 : 8192 < p + 3 + 10 * (xs.length : Int)) : cellsOf xs p = ([], 3) := by unfold cellsOf; rw [if_neg (by rw [h]; simp), if_neg (by rw [h2]; simp), if_pos h3]
theorem co_0 {xs : List Int} {p : Nat} (h : isBytes xs = true) (h2 : isPre p = true) (h3 : (p : Int) + 3 + 10 * (xs.length : Int) ≤ 8192) : cellsOf xs p = (cellsL xs p, 0) := by unfold cellsOf; rw [if_neg (by rw [h]; simp), if_neg (by rw [h2]; simp), if_neg (by omega), Int.toNat_natCast]
theorem cellsOf_len (xs : List Int) (p : Int) : (cellsOf xs p).1.length ≤ 8192 := by
  unfold cellsOf
  split
  · simp
  · split
    · simp
    · split
      · simp
      · rename_i h1 h2 h3
        have hp := isPre_iff.1 (by simpa using h2 : isPre p = true)
        simp only [cellsL_len]
        omega
theorem sCellsOf_any (ao : Option Addr) (cap : Nat) (xs : List Int) (p : Int) (w : World) (hr : Rd w ao xs.length xs) (hn : xs.length ≤ 1048576) (hcap : xs.length ≤ cap) :
    Calls Try.prog 16 #[.slice ao xs.length cap, .int .i64 p] w (Makes2 2 w (cellsOf xs p).1 (cellsOf xs p).2) := by
  rcases hb : isBytes xs with _ | _
  · rw [co_1 hb]
    have HB := Lib.hid hb; clear hb
    go_enter Try.func16, Try.ntmps16
    go_wp2_with (go_at_call 47; refine (sIsBytes_any _ _ _ _ _ hr (by omega)).mono ?_; rintro e w' ⟨rfl, rfl⟩; rw [HB.out])
    go_ret2
    exact ⟨_, rfl, Own.nil_, Below.refl _ _⟩
  have hlen := (isBytes_iff.1 hb).1
  rcases hp : isPre p with _ | _
  · rw [co_2 hb hp]
    have HB := Lib.hid hb; have HP := Lib.hid hp; clear hb hp
    go_enter Try.func16, Try.ntmps16
    go_wp2_with (first
      | (go_at_call 47; refine (sIsBytes_any _ _ _ _ _ hr (by omega)).mono ?_; rintro e w' ⟨rfl, rfl⟩; rw [HB.out])
      | (go_at_call 48; refine (sPreamble_any _ _).mono ?_; rintro e w' ⟨rfl, rfl⟩; rw [HP.out]))
    go_ret2
    exact ⟨_, rfl, Own.nil_, Below.refl _ _⟩
  obtain ⟨p0, p1⟩ := isPre_iff.1 hp
  obtain ⟨q, rfl⟩ := Int.eq_ofNat_of_zero_le (show 0 ≤ p by omega)
  by_cases h3 : 8192 < (q : Int) + 3 + 10 * (xs.length : Int)
  · rw [co_3 hb hp h3]
    have HB := Lib.hid hb; have HP := Lib.hid hp; clear hb hp
    go_enter Try.func16, Try.ntmps16
    go_wp2_with (first
      | (go_at_call 47; refine (sIsBytes_any _ _ _ _ _ hr (by omega)).mono ?_; rintro e w' ⟨rfl, rfl⟩; rw [HB.out])
      | (go_at_call 48; refine (sPreamble_any _ _).mono ?_; rintro e w' ⟨rfl, rfl⟩; rw [HP.out]))
    go_ret2
    exact ⟨_, rfl, Own.nil_, Below.refl _ _⟩
  rw [co_0 hb hp (by omega)]
  have HB := Lib.hid hb; have HP := Lib.hid hp; clear hb hp
  go_enter Try.func16, Try.ntmps16
  go_wp2_with (first
    | (go_at_call 47; refine (sIsBytes_any _ _ _ _ _ hr (by omega)).mono ?_; rintro e w' ⟨rfl, rfl⟩; rw [HB.out])
    | (go_at_call 48; refine (sPreamble_any _ _).mono ?_; rintro e w' ⟨rfl, rfl⟩; rw [HP.out])
    | (go_at_call 49; refine (l18Cells_any _ _ _ q _ _ hr (by omega) hcap (by omega)).mono ?_; rintro e w1 m1; obtain ⟨a1, c1, rfl, o1, -, b1⟩ := m1.get))
  go_ret2
  exact ⟨_, rfl, o1, b1⟩
end Go.Proofs.Ytilkopbfbmibgaa
