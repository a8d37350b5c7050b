/-
  Chapter 3: the order of a code on both sides.
-/
import Derived.Test.YtfmbefmiglpijaaC3a
namespace Go.Proofs.Ytfmbefmiglpijaa
open Go.RowKit

/-- spec.l02Feed of a single bit in a slice that has just been laid. -/
theorem fb_of_one {W : Nat} (g r : BitVec W) (b : Int) : regOf g r [b] = ((fb g r (decide (b = 1))).toNat : Int) := rfl
theorem rdC_one {w : World} {b : Nat} {x : Int} (h : w.cell? ⟨b, 0, none⟩ = some (.int .i64 x)) : Rd w (some ⟨b, 0, none⟩) 1 [x] :=
  ⟨rfl, fun _ => ⟨b, 0, rfl, fun i hi => by
    obtain rfl : i = 0 := by omega
    exact h⟩⟩
theorem rdC_new {w : World} {x : Int} {T : Nat} : Rd (w.alloc (.cells #[.int .i64 x] T)) (some ⟨w.heap.size, 0, none⟩) 1 [x] := rdC_one (by rw [World.cell?_alloc_at _ _ _ _ rfl]; rfl)
theorem bit_list {b : Int} (h : 0 ≤ b ∧ b ≤ 1) : ∀ x ∈ [b], 0 ≤ x ∧ x ≤ 1 := fun x hx => by rw [List.mem_singleton.1 hx]; exact h
theorem feedBit_any (W : Nat) (g r : BitVec W) (ao : Option Addr) (cap : Nat) (b : Int) (w : World) (h1 : 3 ≤ W) (h2 : W ≤ 24) (hr : Rd w ao 1 [b]) (hb : 0 ≤ b ∧ b ≤ 1) :
    Calls Try.prog 57 #[.agg #[.int .i64 W, .int .i64 g.toNat], .int .i64 r.toNat, .slice ao 1 cap] w fun e w' => e = .returned (.int .i64 (fb g r (decide (b = 1))).toNat) ∧ Below w.heap.size w w' :=
  feed_any W g r ao 1 cap [b] w h1 h2 hr (by omega) (bit_list hb)
/-- .. from the register 0, a one: the polynomial. -/
theorem feedOne_any (W : Nat) (g : BitVec W) (ao : Option Addr) (cap : Nat) (w : World) (h1 : 3 ≤ W) (h2 : W ≤ 24) (hr : Rd w ao 1 [1]) :
    Calls Try.prog 57 #[.agg #[.int .i64 W, .int .i64 g.toNat], .int .i64 0, .slice ao 1 cap] w fun e w' => e = .returned (.int .i64 g.toNat) ∧ Below w.heap.size w w' := by
  have h := feedBit_any W g 0#W ao cap 1 w h1 h2 hr (by omega)
  rw [show (((0#W).toNat : Nat) : Int) = 0 from by simp] at h
  rwa [show fb g 0#W (decide ((1 : Int) = 1)) = g from fb_zero_true] at h
/-- .. a nought: one step of the tail. -/
theorem feedNought_any (W : Nat) (g r : BitVec W) (ao : Option Addr) (cap : Nat) (w : World) (h1 : 3 ≤ W) (h2 : W ≤ 24) (hr : Rd w ao 1 [0]) :
    Calls Try.prog 57 #[.agg #[.int .i64 W, .int .i64 g.toNat], .int .i64 r.toNat, .slice ao 1 cap] w fun e w' => e = .returned (.int .i64 (fb g r false).toNat) ∧ Below w.heap.size w w' := by
  have h := feedBit_any W g r ao cap 0 w h1 h2 hr (by omega)
  rwa [show decide ((0 : Int) = 1) = false from by decide] at h

theorem nat_beq {W : Nat} (x y : BitVec W) : ((x.toNat : Int) == (y.toNat : Int)) = decide (x = y) := by
  rw [beq_dec, decide_eq_decide]
  constructor
  · intro h; exact BitVec.eq_of_toNat_eq (by omega)
  · intro h; rw [h]
set_option maxRecDepth 200000 in
/-- spec.l03Order. -/
theorem order_any (W : Nat) (g : BitVec W) (w : World) (h1 : 3 ≤ W) (h2 : W ≤ 24) :
    Calls Try.prog 54 #[.agg #[.int .i64 W, .int .i64 g.toNat]] w fun e w' => e = .returned (.int .i64 (order g)) ∧ Below w.heap.size w w' := by
  obtain ⟨R, hR⟩ : ∃ R : Int, R = (order g : Int) := ⟨_, rfl⟩
  rw [← hR]
  have HR := Lib.hid hR; clear hR
  have hb0 : Below w.heap.size w (w.alloc (.cells #[.int .i64 W, .int .i64 g.toNat] 25)) := (Below.refl _ _).alloc (Nat.le_refl _) _
  have HB := Lib.hid hb0; clear hb0
  have hsc := struct_cells (w := w) (W : Int) (g.toNat : Int) 25
  obtain ⟨hsc0, hsc1⟩ := hsc
  have hlt0 := World.block_lt_of_cell? _ _ hsc0
  go_enter Try.func54, Try.ntmps54
  go_wp2_with fail
  have hsz : w.heap.size + 1 = (w.alloc (.cells #[.int .i64 W, .int .i64 g.toNat] 25)).heap.size := by simp
  generalize w.alloc (.cells #[.int .i64 W, .int .i64 g.toNat] 25) = w0 at hsc0 hsc1 hlt0 HB hsz ⊢
  refine (feedOne_any W g _ _ _ h1 h2 (rdC_one (new_cell hsz))).mono ?_
  rintro e w1 ⟨rfl, b1⟩
  have B1 := Lib.hid (((Below.refl w0.heap.size w0).alloc (Nat.le_refl _) (.cells #[.int .i64 1] 2)).trans (b1.mono (by simp)))
  clear b1
  go_wp2
  go_loopw [4, 5] (fun x i wr => ∃ k : Nat, 1 ≤ k ∧ k ≤ 5001 ∧ i = .int .i64 k ∧ x = .int .i64 (tail g (k - 1)).toNat ∧ Hid (∀ m, 1 ≤ m → m < k → tail g m ≠ g) ∧ Below w0.heap.size w0 wr) (fun _ i _ => 5001 - (intOf i).toNat)
  case atStart => exact ⟨1, by omega, by omega, rfl, rfl, fun m h3 h4 => absurd h3 (by omega), B1.out⟩
  case round =>
    obtain ⟨k, hk1, hk2, rfl, rfl, HN, hbel⟩ := hrel
    have hc0 := (hbel.cell (p := ⟨w.heap.size, 0, none⟩) hlt0).trans hsc0
    have hc1 := (hbel.cell (p := ⟨w.heap.size, 1, none⟩) hlt0).trans hsc1
    by_cases hlt : k ≤ 5000
    · obtain ⟨j, rfl⟩ : ∃ j, k = j + 1 := ⟨k - 1, by omega⟩
      rw [show j + 1 - 1 = j from rfl]
      have HBE := Lib.hid hbel; clear hbel
      have hws := HBE.out.size
      go_wp2_with fail
      clear hc0 hc1
      refine (feedNought_any W g (tail g j) _ _ _ h1 h2 rdC_new).mono ?_
      rintro e w2 ⟨rfl, b2⟩
      have B2 := Lib.hid ((HBE.out.alloc hws (.cells #[.int .i64 0] 2)).trans (b2.mono (by simp; omega)))
      clear b2
      rw [← tail_succ]
      have ht := nat_beq (tail g (j + 1)) g
      by_cases he : tail g (j + 1) = g
      · rw [decide_eq_true he] at ht
        have hfin : ((j + 1 : Nat) : Int) = R := by
          rw [HR.out, show order g = j + 1 from ord_hit 5000 1 (j + 1) (by omega) (by omega) HN.out he]
        have HF := Lib.hid hfin; clear hfin he
        go_wp2
        go_ret
        exact ⟨ret_int (by first | exact HF.out | (have := HF.out; push_cast at this; exact this)), below_two HB.out B2.out⟩
      · rw [decide_eq_false he] at ht
        have hfin : ∀ m, 1 ≤ m → m < j + 1 + 1 → tail g m ≠ g := fun m h3 h4 => by
          by_cases e : m = j + 1
          · rw [e]; exact he
          · exact HN.out m h3 (by omega)
        have HF := Lib.hid hfin; clear hfin he
        go_wp2
        go_roundw
        case rel => exact ⟨j + 1 + 1, by omega, by omega, by go_num, rfl, HF, B2.out⟩
        case measure => simp [intOf]; omega
    · have hkn : k = 5001 := by omega
      subst hkn
      have hfin : (5001 : Int) = R := by
        rw [HR.out, show order g = 5001 from ord_none 5000 1 (fun m h3 h4 => HN.out m h3 (by omega))]; rfl
      have HF := Lib.hid hfin; clear hfin hc0 hc1
      go_wp2
      go_ret
      exact ⟨ret_int HF.out, below_two HB.out hbel⟩
end Go.Proofs.Ytfmbefmiglpijaa
