/-
  Chapter 6: the bytes of a state on both sides; lists compared and copied by the model.
  Chapter 6: FrameBody of the program and of its model.
  Chapter 6: slices.Equal, and what the program reads of a list: stateOfBytes, readBody.
-/
import Derived.Test.YtjejflngaelgkaaSixC
import Derived.Test.YtjejflngaelgkaaOne
import Derived.Test.YtjejflngaelgkaaOneB
import Derived.Test.YtjejflngaelgkaaFourA
namespace Go.Proofs.Ytjejflngaelgkaa
section
open Go.RowKit

/-- spec.l01Same: whether two slices read as the same list. -/
theorem same_any (ao bo : Option Addr) (n m c d : Nat) (xs ys : List Int) (w : World) (hx : Rd w ao n xs) (hy : Rd w bo m ys) (hn : n ≤ 9223372036854775807) (hm : m ≤ 9223372036854775807) :
    Calls Try.prog 87 #[.slice ao n c, .slice bo m d] w fun e w' => e = .returned (.bool (decide (xs = ys))) ∧ ∃ q, w' = w.drewN q := by
  obtain ⟨hxl, hxa⟩ := hx
  obtain ⟨hyl, hya⟩ := hy
  by_cases hnm : n = m
  · subst hnm
    have XL := Lib.hid hxl; clear hxl
    have XA := Lib.hid hxa; clear hxa
    have YL := Lib.hid hyl; clear hyl
    have YA := Lib.hid hya; clear hya
    have hne : ((n : Int) != (n : Int)) = false := by simp
    go_enter Try.func87, Try.ntmps87
    go_wp2
    clear hne
    go_loopw [5] (fun i wr => ∃ k : Nat, k ≤ n ∧ i = .int .i64 k ∧ Hid (xs.take k = ys.take k) ∧ ∃ q, wr = w.drewN q) (fun i _ => n - (intOf i).toNat)
    case atStart => exact ⟨0, Nat.zero_le _, rfl, rfl, 0, rfl⟩
    case round =>
      obtain ⟨k, hk, rfl, heq, q, rfl⟩ := hrel
      by_cases hlt : k < n
      · obtain ⟨b, off, rfl, hc⟩ := XA.out (by omega)
        obtain ⟨b', off', rfl, hc'⟩ := YA.out (by omega)
        have hck : w.cell? ⟨b, off + k, none⟩ = some (.int .i64 (xs.getD k 0)) := hc k hlt
        have hck' : w.cell? ⟨b', off' + k, none⟩ = some (.int .i64 (ys.getD k 0)) := hc' k hlt
        clear hc hc' XA YA
        obtain ⟨x, hx⟩ : ∃ x, x = xs.getD k 0 := ⟨_, rfl⟩
        obtain ⟨y, hy⟩ : ∃ y, y = ys.getD k 0 := ⟨_, rfl⟩
        rw [← hx] at hck
        rw [← hy] at hck'
        have HX := Lib.hid hx; clear hx
        have HY := Lib.hid hy; clear hy
        by_cases hxy : x = y
        · have hd : (x != y) = false := by simp [hxy]
          have HXY := Lib.hid hxy; clear hxy
          go_wp2
          go_quiet (fail)
          go_wp2
          go_roundw
          case rel => exact ⟨k + 1, by omega, by go_num, take_eq_succ (by rw [XL.out]; exact hlt) (by rw [YL.out]; exact hlt) heq.out (by rw [← HX.out, ← HY.out]; exact HXY.out), _, rfl⟩
          case measure => simp [intOf]; omega
        · have hd : (x != y) = true := by simp [hxy]
          have HXY := Lib.hid hxy; clear hxy
          go_wp2
          go_quiet (fail)
          go_wp2
          go_ret
          exact ⟨ret_bool (ne_of_getD (k := k) (by rw [← HX.out, ← HY.out]; exact HXY.out)).symm, _, World.drewN_drewN _ _ _⟩
      · have hkn : k = n := by omega
        subst hkn
        go_wp2
        go_ret
        exact ⟨ret_bool (decide_eq_true (list_eq_of_take XL.out YL.out heq.out)).symm, _, rfl⟩
  · have hne : ((n : Int) != (m : Int)) = true := by simp; omega
    have hf : decide (xs = ys) = false := ne_of_len (by rw [hxl, hyl]; exact hnm)
    rw [hf]
    clear hxl hyl hxa hya hf hnm
    go_enter Try.func87, Try.ntmps87
    go_wp2
    go_ret
    exact ⟨rfl, 0, rfl⟩
/-- A slice literal of one number. -/
theorem Own.of_alloc_one {E base : Nat} {w : World} (y : Int) (hE : base ≤ w.heap.size) : Own E (w.alloc (.cells #[.int .i64 y] E)) base (.slice (some ⟨w.heap.size, 0, none⟩) 1 1) [y] :=
  ⟨by simp, .inr ⟨w.heap.size, 1, #[.int .i64 y], by simp, hE, heap_alloc_new w _, by simp, by unfold maxLen; omega, by simp, by simp⟩⟩

/-! ### the bytes of a state -/
theorem bits_list {xs : List Int} (hb : ∀ x ∈ xs, 0 ≤ x ∧ x ≤ 1) (hl : xs.length ≤ 8192) : isBits xs = true := isBits_iff.2 ⟨hl, hb⟩
theorem bytes_state (t m r s k : Int) : bitsToBytes (stateBits t m r s k) = (stBytes t m r s k, 0) := by
  rw [bi_0 (bits_list (stateBits_bits _ _ _ _ _) (by rw [stateBits_len]; omega)) (by rw [stateBits_len]), stateBits_len]
  rfl
end

section
open Go.RowKit

theorem head_or {a q : Int} (ha : 0 ≤ a ∧ a ≤ 3) (hq : 0 ≤ q ∧ q ≤ 7) : bits .or .i64 (a * 64) (q * 8) = a * 64 + q * 8 := by
  obtain ⟨a, rfl⟩ := Int.eq_ofNat_of_zero_le ha.1
  obtain ⟨q, rfl⟩ := Int.eq_ofNat_of_zero_le hq.1
  have h1 : a ≤ 3 := by omega
  have h2 : q ≤ 7 := by omega
  rw [show ((a : Nat) : Int) * 64 = ((a * 64 : Nat) : Int) from by omega, show ((q : Nat) : Int) * 8 = ((q * 8 : Nat) : Int) from by omega, or_nat _ _ (by omega) (by omega), ← Int.natCast_add]
  congr 1
  have key : ∀ a : Fin 4, ∀ q : Fin 8, a.val * 64 ||| q.val * 8 = a.val * 64 + q.val * 8 := by decide +kernel
  exact key ⟨a, by omega⟩ ⟨q, by omega⟩
/-- The body, as the walks build it. -/
theorem body_parts {a q t m r s k : Int} {xs : List Int} {x y : Bool} (hx : hasState a = x) (hy : hasData a = y) : frameBytes ⟨a, q, t, m, r, s, k, xs⟩ = [a * 64 + q * 8] ++ (if x = true then stBytes t m r s k else []) ++ (if y = true then [(xs.length : Int)] ++ xs else []) := by subst hx hy; rfl
theorem body_no {f : Fr} (h : isFrame f = false) : frameBody f = ([], 1) := by unfold frameBody; rw [if_neg (by simp [h])]
theorem body_ok {f : Fr} (h : isFrame f = true) : frameBody f = (frameBytes f, 0) := by unfold frameBody; rw [if_pos h]
/-- A frame in the block that the call laid first, and a list of the call's own that grows. -/
structure Built (w wi : World) (a q t m r s k : Int) (v z : Value) (zs : List Int) : Prop where
  box : FrameAt 41 wi w.heap.size a q t m r s k v
  below : Below w.heap.size w wi
  own : Own 2 wi (w.heap.size + 1) z zs
theorem Built.call {w wi wj : World} {a q t m r s k : Int} {v z : Value} {zs : List Int} (h : Built w wi a q t m r s k v z zs) (b : Below wi.heap.size wi wj) : Built w wj a q t m r s k v z zs := ⟨h.box.below b h.box.lt, below_two h.below b, h.own.below b⟩
theorem Built.app {w wi wj : World} {a q t m r s k : Int} {v z z' : Value} {zs zs' : List Int} (h : Built w wi a q t m r s k v z zs) (b : Below (w.heap.size + 1) wi wj) (o : Own 2 wj (w.heap.size + 1) z' zs') : Built w wj a q t m r s k v z' zs' := ⟨h.box.below b (Nat.lt_succ_self _), h.below.trans (b.mono (Nat.le_succ _)), o⟩
theorem Built.size {w wi : World} {a q t m r s k : Int} {v z : Value} {zs : List Int} (h : Built w wi a q t m r s k v z zs) : w.heap.size + 1 ≤ wi.heap.size := h.box.lt
theorem Built.lit {w wi : World} {a q t m r s k : Int} {v : Value} (x : Int) (h1 : FrameAt 41 wi w.heap.size a q t m r s k v) (h2 : Below w.heap.size w wi) : Built w (wi.alloc (.cells #[.int .i64 x] 2)) a q t m r s k v (.slice (some ⟨wi.heap.size, 0, none⟩) 1 1) [x] :=
  have b : Below wi.heap.size wi (wi.alloc (.cells #[.int .i64 x] 2)) := (Below.refl _ _).alloc (Nat.le_refl _) _
  ⟨h1.below b h1.lt, below_two h2 b, Own.of_alloc_one x h1.lt⟩
theorem Built.makes {w wi : World} {a q t m r s k : Int} {v z : Value} {zs : List Int} (h : Built w wi a q t m r s k v z zs) : Makes 2 w zs (.returned z) wi := ⟨z, rfl, h.own.more (Nat.le_succ _), h.below⟩
theorem Built.makes2 {w wi : World} {a q t m r s k c : Int} {v z : Value} {zs : List Int} (h : Built w wi a q t m r s k v z zs) : Makes2 2 w zs c (.returned (.tuple #[z, .int .i64 c])) wi := ⟨z, rfl, h.own.more (Nat.le_succ _), h.below⟩

end

section
open Go.RowKit

/-- slices.Equal: whether two slices read as the same list. -/
theorem equal_any (ao bo : Option Addr) (n m c d : Nat) (xs ys : List Int) (w : World) (hx : Rd w ao n xs) (hy : Rd w bo m ys) (hn : n ≤ 9223372036854775807) (hm : m ≤ 9223372036854775807) :
    Calls Try.prog 53 #[.slice ao n c, .slice bo m d] w fun e w' => e = .returned (.bool (decide (xs = ys))) ∧ ∃ q, w' = w.drewN q := by
  obtain ⟨hxl, hxa⟩ := hx
  obtain ⟨hyl, hya⟩ := hy
  by_cases hnm : n = m
  · subst hnm
    have XL := Lib.hid hxl; clear hxl
    have XA := Lib.hid hxa; clear hxa
    have YL := Lib.hid hyl; clear hyl
    have YA := Lib.hid hya; clear hya
    have hne : ((n : Int) != (n : Int)) = false := by simp
    go_enter Try.func53, Try.ntmps53
    go_wp2
    clear hne
    go_loopw [13] (fun i wr => ∃ k : Nat, k ≤ n ∧ i = .int .i64 k ∧ Hid (xs.take k = ys.take k) ∧ ∃ q, wr = w.drewN q) (fun i _ => n - (intOf i).toNat)
    case atStart => exact ⟨0, Nat.zero_le _, rfl, rfl, 0, rfl⟩
    case round =>
      obtain ⟨k, hk, rfl, heq, q, rfl⟩ := hrel
      by_cases hlt : k < n
      · obtain ⟨b, off, rfl, hc⟩ := XA.out (by omega)
        obtain ⟨b', off', rfl, hc'⟩ := YA.out (by omega)
        have hck : w.cell? ⟨b, off + k, none⟩ = some (.int .i64 (xs.getD k 0)) := hc k hlt
        have hck' : w.cell? ⟨b', off' + k, none⟩ = some (.int .i64 (ys.getD k 0)) := hc' k hlt
        clear hc hc' XA YA
        obtain ⟨x, hx⟩ : ∃ x, x = xs.getD k 0 := ⟨_, rfl⟩
        obtain ⟨y, hy⟩ : ∃ y, y = ys.getD k 0 := ⟨_, rfl⟩
        rw [← hx] at hck
        rw [← hy] at hck'
        have HX := Lib.hid hx; clear hx
        have HY := Lib.hid hy; clear hy
        by_cases hxy : x = y
        · have hd : (x != y) = false := by simp [hxy]
          have HXY := Lib.hid hxy; clear hxy
          go_wp2
          go_quiet (fail)
          go_wp2
          go_roundw
          case rel => exact ⟨k + 1, by omega, by go_num, take_eq_succ (by rw [XL.out]; exact hlt) (by rw [YL.out]; exact hlt) heq.out (by rw [← HX.out, ← HY.out]; exact HXY.out), _, rfl⟩
          case measure => simp [intOf]; omega
        · have hd : (x != y) = true := by simp [hxy]
          have HXY := Lib.hid hxy; clear hxy
          go_wp2
          go_quiet (fail)
          go_wp2
          go_ret
          exact ⟨ret_bool (ne_of_getD (k := k) (by rw [← HX.out, ← HY.out]; exact HXY.out)).symm, _, World.drewN_drewN _ _ _⟩
      · have hkn : k = n := by omega
        subst hkn
        go_wp2
        go_ret
        exact ⟨ret_bool (decide_eq_true (list_eq_of_take XL.out YL.out heq.out)).symm, _, rfl⟩
  · have hne : ((n : Int) != (m : Int)) = true := by simp; omega
    have hf : decide (xs = ys) = false := ne_of_len (by rw [hxl, hyl]; exact hnm)
    rw [hf]
    clear hxl hyl hxa hya hf hnm
    go_enter Try.func53, Try.ntmps53
    go_wp2
    go_ret
    exact ⟨rfl, 0, rfl⟩
/-- A frame handed back with a flag, its data a slice of the call's own; all old memory as it was. -/
def GivesFB (w : World) (f : Fr) (c : Value) (e : Ending) (w' : World) : Prop :=
  ∃ ao cap, e = .returned (.tuple #[.agg #[.int .i64 f.kind, .int .i64 f.req, .int .i64 f.t, .int .i64 f.m, .int .i64 f.r, .int .i64 f.s, .int .i64 f.k, .slice ao f.data.length cap], c]) ∧ Own 2 w' w.heap.size (.slice ao f.data.length cap) f.data ∧ Below w.heap.size w w'
/-- What a reader hands back: a frame and true, or the zero value and false. -/
def GivesOpt (w : World) (x : Option Fr) (e : Ending) (w' : World) : Prop := match x with
  | none => GivesFB w Fr.zero (.bool false) e w'
  | some f => GivesFB w f (.bool true) e w'
theorem bytes_part {xs : List Int} (h : ∀ x ∈ xs, 0 ≤ x ∧ x ≤ 255) (hl : xs.length ≤ 1024) : isBytes xs = true := isBytes_iff.2 ⟨hl, h⟩
theorem flat_bits8 (xs : List Int) : ∀ x ∈ bitsOf8 xs, 0 ≤ x ∧ x ≤ 1 := by
  intro x hx
  obtain ⟨y, -, hy⟩ := List.mem_flatMap.1 hx
  exact bitsOf_bits _ _ x hy
theorem bits8_len (xs : List Int) : (bitsOf8 xs).length = 8 * xs.length := flat_len xs
end
end Go.Proofs.Ytjejflngaelgkaa
