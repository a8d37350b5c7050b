/-
  impl.newCyclicCode, walked.
-/
import Derived.Test.YtadmpfmpmpdbeaaC2e
namespace Go.Proofs.Ytadmpfmpmpdbeaa
open Go.RowKit

/-- A block that holds a cyclicCode whose table is filled to k. -/
def CycTo {W : Nat} (g : BitVec W) (w : World) (p k : Nat) : Prop := w.heap[p]? = some (.cells (cycCells W g.toNat (tabTo g k)) 70 (0, 0))
section
variable {W : Nat} {g : BitVec W} {w : World} {p k : Nat}
theorem CycTo.code (h : CycTo g w p k) : CodeAt w p W g.toNat := ⟨cell_of_row w p 0 _ _ (0, 0) h, cell_of_row w p 1 _ _ (0, 0) h⟩
theorem CycTo.cell (h : CycTo g w p k) (i : Nat) (hi : i < 256) : w.cell? ⟨p, 2 + i, none⟩ = some (.int .i64 (if i < k then tabOf g i else 0)) := by
  rw [cell_of_row w p (2 + i) _ _ (0, 0) h, cycCells_at _ _ _ _ (by rw [tabTo_len]; exact hi), tabTo_getD _ _ hi]
theorem CycTo.frozen (h : CycTo g w p k) (i : Nat) : w.frozen? ⟨p, i, none⟩ = false := frozen_of_row w p i _ _ h
theorem CycTo.store (h : CycTo g w p k) (x : Int) (hx : x = tabOf g k) : CycTo g (w.setCell ⟨p, 2 + k, none⟩ (.int .i64 x)) p (k + 1) := by
  subst hx
  have := heap_setCell_same w p (2 + k) _ _ (.int .i64 (tabOf g k)) h
  rw [cycCells_set, tabTo_succ] at this
  exact this
theorem CycTo.lt (h : CycTo g w p k) : p < w.heap.size := (Array.getElem?_eq_some_iff.1 h).1
end
theorem still_w {P : Program} {f : FuncId} {args : Array Value} {w : World} {v : Value}
    (h : Calls P f args w fun e w' => e = .returned v ∧ w = w') : Calls P f args w fun e w'' => e = .returned v ∧ w'' = w :=
  h.mono fun _ _ ⟨he, hm⟩ => ⟨he, hm.symm⟩
/-- What newCyclicCode leaves. -/
def CycMade {W : Nat} (g : BitVec W) (w : World) (e : Ending) (w' : World) : Prop :=
  ∃ p, e = .returned (.pointer (some ⟨p, 0, none⟩)) ∧ CycTo g w' p 256 ∧ w.heap.size ≤ p ∧ Below w.heap.size w w'

set_option maxRecDepth 100000 in
theorem newCode_any (W : Nat) (g : BitVec W) (w : World) (h1 : 3 ≤ W) (h2 : W ≤ 24) :
    Calls Try.prog 56 #[.agg #[.int .i64 W, .int .i64 g.toNat]] w (CycMade g w) := by
  obtain ⟨cs, hcs⟩ : ∃ cs, cs = cycCells W g.toNat (List.replicate 256 0) := ⟨_, rfl⟩
  have hcs1 : cs = cycCells W g.toNat (tabTo g 1) := by rw [tabTo_one]; exact hcs
  have HCS := Lib.hid hcs; clear hcs
  have HCS1 := Lib.hid hcs1; clear hcs1
  obtain ⟨G, hG⟩ : ∃ G, G = (g.toNat : Int) := ⟨_, rfl⟩
  have hb0 : Below w.heap.size w (w.alloc (.cells #[.int .i64 W, .int .i64 G] 25)) := (Below.refl _ _).alloc (Nat.le_refl _) _
  have HB := Lib.hid hb0; clear hb0
  rw [← hG]
  have HG := Lib.hid hG; clear hG
  go_enter Try.func56, Try.ntmps56
  go_wp2_with (with_reducible refine wpList_build_cyc _ rfl (.tmp 6) (.tmp 8) rfl W G cs (by rw [HG.out]; exact HCS.out) rfl rfl ?_)
  go_loopw [4] (fun i wr => ∃ k : Nat, 1 ≤ k ∧ k ≤ 256 ∧ i = .int .i64 k ∧ CycTo g wr (w.heap.size + 1) k ∧ Below w.heap.size w wr) (fun i _ => 256 - (intOf i).toNat)
  case atStart =>
    refine ⟨1, Nat.le_refl _, by omega, rfl, ?_, HB.out.alloc (by simp) _⟩
    unfold CycTo
    rw [← HCS1.out]
    have := heap_alloc_new (w.alloc (.cells #[.int .i64 W, .int .i64 G] 25)) (.cells cs 70)
    simpa using this
  case round =>
    obtain ⟨k, hk0, hk, rfl, hcyc, hbel⟩ := hrel
    by_cases hlt : k < 256
    · obtain ⟨h, hh⟩ : ∃ h : Nat, h = k / 2 := ⟨_, rfl⟩
      have hkh : (k : Int) / 2 = (h : Int) := by omega
      have hh2 : h < 256 := by omega
      have hh3 : (h : Int) < 256 := by omega
      have hk3 : (k : Int) < 256 := by omega
      have hld := hcyc.cell h hh2
      rw [if_pos (by omega)] at hld
      have hcd := hcyc.code
      have hst := hcyc.cell k hlt
      have hfz := hcyc.frozen (2 + k)
      have hnew := hcyc.store (tabOf g k) rfl
      have hbn : Below w.heap.size w (wr.setCell ⟨w.heap.size + 1, 2 + k, none⟩ (.int .i64 (tabOf g k))) := hbel.setCell (by simp) _
      have hlt2 := hcyc.lt
      have hhalf : ((fb g (fbs g 0#W (bl (bitsOf (h : Int) 8))) (decide ((k : Int) % 2 = 1))).toNat : Int) = tabOf g k := by
        unfold tabOf regOf; rw [tabOf_half g k hlt, hh]
      have hand := and_one (k : Int)
      obtain ⟨y, hy⟩ : ∃ y : BitVec W, y = fbs g 0#W (bl (bitsOf (h : Int) 8)) := ⟨_, rfl⟩
      have hx : tabOf g h = (y.toNat : Int) := by rw [hy]; rfl
      rw [← hy] at hhalf
      rw [hx] at hld
      have HC := Lib.hid hcd; clear hcd
      obtain ⟨z, hz⟩ : ∃ z, z = (if k < k then tabOf g k else 0) := ⟨_, rfl⟩
      rw [← hz] at hst
      obtain ⟨u, hu⟩ : ∃ u, u = tabOf g k := ⟨_, rfl⟩
      rw [← hu] at hnew hbn hhalf
      have HN := Lib.hid hnew; clear hnew hz hu
      have HBN := Lib.hid hbn; clear hbn hbel hcyc
      have HH := Lib.hid hhalf; clear hhalf hy hx hh
      have hm0 : 0 ≤ (k : Int) % 2 := by omega
      have hm1 : (k : Int) % 2 ≤ 1 := by omega
      go_wp2
      go_still_tail 16, (by kernel_rfl)
      still_call (still_w (afterBit_any (w.heap.size + 1) W g y ((k : Int) % 2) _ h1 h2 HC.out ⟨hm0, hm1⟩))
      rw [HH.out]
      repeat still_step
      refine wpStill_nil ?_
      change wpList _ _ _ _ _ wr.drew
      go_wp2
      go_roundw
      case rel => exact ⟨k + 1, by omega, by omega, by go_num, HN.out, HBN.out.drew⟩
      case measure => simp [intOf]; omega
    · have hkn : k = 256 := by omega
      subst hkn
      have HC := Lib.hid hcyc; clear hcyc
      go_wp2
      go_ret
      exact ⟨_, rfl, HC.out, by omega, hbel⟩
end Go.Proofs.Ytadmpfmpmpdbeaa
