/-
  laws.roll and (*dice).below: numbers drawn from a code by the laws themselves.
-/
import Derived.Test.YtadmpfmpmpdbeaaDraw
import Derived.Deep.CutRange
import Derived.Deep.CutBlock
namespace Go.Proofs.Ytadmpfmpmpdbeaa
open Go.RowKit

/-- Block d is a dice: a code that lies below it, how far it has been read, and a state. T: the number of the struct's type. -/
def Dice (T : Nat) (w : World) (d : Nat) : Prop :=
  ∃ (ao : Option Addr) (n cap : Nat) (cs : List Int) (at_ : Nat) (h : Int), w.heap[d]? = some (.cells #[.slice ao n cap, .int .i64 at_, .int .u64 h] T (0, 0)) ∧ RdB w d ao n cs ∧ n ≤ 1048576 ∧ at_ ≤ n ∧ 0 ≤ h ∧ h ≤ 18446744073709551615
section
variable {T : Nat} {w w' : World} {d : Nat}
theorem Dice.lt (h : Dice T w d) : d < w.heap.size := by
  obtain ⟨_, _, _, _, _, _, h, _⟩ := h
  exact (Array.getElem?_eq_some_iff.1 h).1
theorem Dice.belowB {B : Nat} (h : Dice T w d) (hb : Below B w w') (hp : d < B) : Dice T w' d := by
  obtain ⟨ao, n, cap, cs, a, s, hh, hr, r⟩ := h
  exact ⟨ao, n, cap, cs, a, s, (hb.block d hp).trans hh, hr.keep fun b o h => hb.cell (p := ⟨b, o, none⟩) (by exact Nat.lt_trans h hp), r⟩
theorem Dice.below (h : Dice T w d) (hb : Below w.heap.size w w') : Dice T w' d := h.belowB hb h.lt
end
/-- What roll leaves: a dice in a new block. -/
def Rolled (T : Nat) (w : World) (e : Ending) (w' : World) : Prop :=
  ∃ d, e = .returned (.pointer (some ⟨d, 0, none⟩)) ∧ w.heap.size ≤ d ∧ Dice T w' d ∧ Below w.heap.size w w'
theorem wrap_u64_bound (x : Int) : 0 ≤ IntKind.u64.wrap x ∧ IntKind.u64.wrap x ≤ 18446744073709551615 := by rw [IntKind.wrap_u64]; omega

theorem and_u24 (q : Int) : ∃ x : Int, wrap64 (bits .and .u64 q 16777215) = x ∧ 0 ≤ x ∧ x ≤ 16777215 := by
  have h1 : (BitVec.ofInt 64 16777215).toNat = 16777215 := by decide
  have h2 : (BitVec.ofInt 64 q &&& BitVec.ofInt 64 16777215).toNat ≤ 16777215 := by
    rw [BitVec.toNat_and, h1]; exact Nat.and_le_right
  have e : bits .and .u64 q 16777215 = (((BitVec.ofInt 64 q &&& BitVec.ofInt 64 16777215).toNat : Nat) : Int) := by
    show IntKind.u64.wrap ((BitVec.ofInt 64 q &&& BitVec.ofInt 64 16777215).toNat : Nat) = _
    rw [IntKind.wrap_u64]; omega
  refine ⟨_, rfl, ?_⟩
  rw [e]
  unfold wrap64
  omega
/-- What a throw leaves. -/
def Thrown (T : Nat) (w : World) (d : Nat) (n : Int) (e : Ending) (w' : World) : Prop :=
  ∃ x : Int, e = .returned (.int .i64 x) ∧ 0 ≤ x ∧ x < n ∧ Dice T w' d ∧ w.grownBy w' (some d)
theorem roll_any (ao : Option Addr) (n cap : Nat) (cs : List Int) (s : Int) (w : World) (hr : RdB w w.heap.size ao n cs) (hn : n ≤ 1048576) :
    Calls Try.prog 31 #[.slice ao n cap, .int .u64 s] w (Rolled 74 w) := by
  have HR := Lib.hid hr; clear hr
  go_enter Try.func31, Try.ntmps31
  go_upto_region 2 with fail
  obtain ⟨h00, h01⟩ := wrap_u64_bound (IntKind.u64.wrap (s * 7919) + n)
  generalize IntKind.u64.wrap (IntKind.u64.wrap (s * 7919) + n) = h0 at h00 h01 ⊢
  generalize IntKind.u64.wrap (s * 7919) = s1
  have hal := heap_alloc_new w (.cells #[.slice ao n cap, .int .i64 0, .int .u64 h0] 74)
  have hbl : Below w.heap.size w (w.alloc (.cells #[.slice ao n cap, .int .i64 0, .int .u64 h0] 74)) := (Below.refl _ _).alloc (Nat.le_refl _) _
  generalize w.alloc (.cells #[.slice ao n cap, .int .i64 0, .int .u64 h0] 74) = w1 at hal hbl ⊢
  have HAL := Lib.hid hal; clear hal
  have HBL := Lib.hid hbl; clear hbl
  go_wp2
  go_loopw [6] (fun i wr => ∃ (k : Nat) (h : Int), k ≤ n ∧ i = .int .i64 k ∧ wr.heap[w.heap.size]? = some (.cells #[.slice ao n cap, .int .i64 0, .int .u64 h] 74 (0, 0)) ∧ 0 ≤ h ∧ h ≤ 18446744073709551615 ∧ Below w.heap.size w wr) (fun i _ => n - (intOf i).toNat)
  case atStart => exact ⟨0, h0, Nat.zero_le _, rfl, HAL.out, h00, h01, HBL.out⟩
  case round =>
    clear h00 h01
    obtain ⟨k, h, hk, rfl, hh, hs0, hs1, hbel⟩ := hrel
    have hc2 : wr.cell? ⟨w.heap.size, 2, none⟩ = some (.int .u64 h) := cell_of_row wr w.heap.size 2 _ _ (0, 0) hh
    have hf2 : wr.frozen? ⟨w.heap.size, 2, none⟩ = false := frozen_of_row wr w.heap.size 2 _ _ hh
    have HH := Lib.hid hh; clear hh
    have HB := Lib.hid hbel
    by_cases hlt : k < n
    · obtain ⟨b, off, rfl, hbp, hcode⟩ := HR.out.here (by omega)
      have hck := (hbel.cell (p := ⟨b, off + k, none⟩) hbp).trans (hcode k hlt)
      have hcb := HR.out.bound k hlt
      clear hcode hbel
      obtain ⟨c, hc⟩ : ∃ c, c = cs.getD k 0 := ⟨_, rfl⟩
      rw [← hc] at hck hcb
      clear hc
      obtain ⟨hcb0, hcb1⟩ := hcb
      go_wp2
      go_region
      obtain ⟨hv0, hv1⟩ := wrap_u64_bound (IntKind.u64.wrap (IntKind.u64.wrap (h * 1099511628211) + c) + 3)
      generalize IntKind.u64.wrap (IntKind.u64.wrap (IntKind.u64.wrap (h * 1099511628211) + c) + 3) = v at hv0 hv1 ⊢
      generalize IntKind.u64.wrap (IntKind.u64.wrap (h * 1099511628211) + c) = v1
      generalize IntKind.u64.wrap (h * 1099511628211) = v2
      go_wp2
      go_roundw
      case rel => exact ⟨k + 1, v, by omega, by go_num, src_seed HH.out, hv0, hv1, (HB.out.setCell (by exact Nat.le_refl _) _).drew⟩
      case measure => simp [intOf]; omega
    · clear hbel
      go_wp2
      go_ret
      exact ⟨_, rfl, Nat.le_refl _, ⟨ao, n, cap, cs, 0, h, HH.out, HR.out.keep fun b o h => HB.out.cell (p := ⟨b, o, none⟩) h, hn, Nat.zero_le _, hs0, hs1⟩, HB.out⟩
theorem below_any (d : Nat) (n : Int) (w : World) (hs : Dice 74 w d) (hn0 : 1 ≤ n) (hn : n ≤ 4294967296) :
    Calls Try.prog 32 #[.pointer (some ⟨d, 0, none⟩), .int .i64 n] w (Thrown 74 w d n) := by
  obtain ⟨ao, m, cap, cs, at_, h, hh, hr, hm, hat, h0, h1⟩ := hs
  have hc2 : w.cell? ⟨d, 2, none⟩ = some (.int .u64 h) := cell_of_row w d 2 _ _ (0, 0) hh
  have hf2 : w.frozen? ⟨d, 2, none⟩ = false := frozen_of_row w d 2 _ _ hh
  go_enter Try.func32, Try.ntmps32
  go_upto_region 2 with fail
  obtain ⟨h00, h01⟩ := wrap_u64_bound (IntKind.u64.wrap (h * 6364136223846793005) + 1442695040888963407)
  generalize IntKind.u64.wrap (IntKind.u64.wrap (h * 6364136223846793005) + 1442695040888963407) = h' at h00 h01 ⊢
  generalize IntKind.u64.wrap (h * 6364136223846793005) = q1
  have hh1 := src_seed (y := .int .u64 h') hh
  have hg1 : w.grownBy (w.setCell ⟨d, 2, none⟩ (.int .u64 h')) (some d) := ⟨rfl, rfl, rfl, by simp [World.setCell], fun k _ hk => heap_setCell_other _ ⟨d, 2, none⟩ k _ (fun e => hk (by simp [e]))⟩
  have hr1 : RdB (w.setCell ⟨d, 2, none⟩ (.int .u64 h')) d ao m cs := hr.keep fun b' o h => World.cell?_of_block (heap_setCell_other _ ⟨d, 2, none⟩ b' _ (by simp; omega))
  generalize w.setCell ⟨d, 2, none⟩ (.int .u64 h') = w1 at hh1 hg1 hr1 ⊢
  clear hc2 hf2 hh hr
  have hc0 : w1.cell? ⟨d, 0, none⟩ = some (.slice ao m cap) := cell_of_row w1 d 0 _ _ (0, 0) hh1
  have hc1 : w1.cell? ⟨d, 1, none⟩ = some (.int .i64 at_) := cell_of_row w1 d 1 _ _ (0, 0) hh1
  have hc2 : w1.cell? ⟨d, 2, none⟩ = some (.int .u64 h') := cell_of_row w1 d 2 _ _ (0, 0) hh1
  have hf1 : w1.frozen? ⟨d, 1, none⟩ = false := frozen_of_row w1 d 1 _ _ hh1
  go_upto_region 3 with fail
  obtain ⟨x, hx, hx0, hx1⟩ := and_u24 (h' / 8589934592)
  rw [hx]
  generalize bits .and .u64 (h' / 8589934592) 16777215 = q2
  generalize h' / 8589934592 = q3
  clear hx
  have hD : ∀ k : Nat, Dice 74 (w1.drewN k) d := fun k => ⟨ao, m, cap, cs, at_, h', hh1, hr1.keep fun _ _ _ => rfl, hm, hat, h00, h01⟩
  have HD := Lib.hid hD; clear hD
  have HG := Lib.hid hg1; clear hg1
  by_cases hlt : at_ < m
  · obtain ⟨b, off, rfl, hbp, hcode⟩ := hr1.here (by omega)
    have hck := hcode at_ hlt
    have hcb := hr1.bound at_ hlt
    clear hcode
    obtain ⟨c, hc⟩ : ∃ c, c = cs.getD at_ 0 := ⟨_, rfl⟩
    rw [← hc] at hck hcb
    clear hc
    obtain ⟨hcb0, hcb1⟩ := hcb
    have hs : ∀ k : Nat, ((w1.drewN k).setCell ⟨d, 1, none⟩ (.int .i64 ((at_ : Int) + 1))).heap[d]? = some (.cells #[.slice (some ⟨b, off, none⟩) m cap, .int .i64 ((at_ + 1 : Nat) : Int), .int .u64 h'] 74 (0, 0)) := fun k => src_at (w := w1.drewN k) hh1
    have hD2 : ∀ k : Nat, Dice 74 ((w1.drewN k).setCell ⟨d, 1, none⟩ (.int .i64 ((at_ : Int) + 1))) d := fun k =>
      ⟨_, m, cap, cs, at_ + 1, h', hs k, hr1.keep fun b' o h => World.cell?_of_block (heap_setCell_other (w1.drewN k) ⟨d, 1, none⟩ b' _ (by simp; omega)), hm, by omega, h00, h01⟩
    have hg2 : ∀ k : Nat, w1.grownBy ((w1.drewN k).setCell ⟨d, 1, none⟩ (.int .i64 ((at_ : Int) + 1))) (some d) := fun k => ⟨rfl, rfl, rfl, by simp [World.setCell, World.drewN], fun i _ hi => heap_setCell_other (w1.drewN k) ⟨d, 1, none⟩ i _ (fun e => hi (by simp [e]))⟩
    have HD2 := Lib.hid hD2; clear hD2 hs
    have HG2 := Lib.hid hg2; clear hg2 hr1 hh1
    go_quiet (fail)
    go_wp2
    go_quiet (fail)
    go_wp2
    go_ret
    exact ⟨_, rfl, Int.emod_nonneg _ (by omega), Int.emod_lt_of_pos _ (by omega), HD2.out _, grown_trans HG.out (HG2.out _)⟩
  · clear hr1 hh1
    go_quiet (fail)
    go_wp2
    go_ret
    exact ⟨_, rfl, Int.emod_nonneg _ (by omega), Int.emod_lt_of_pos _ (by omega), HD.out _, grown_trans HG.out (grown_of_below (below_drewN' (Below.refl _ _) _))⟩
end Go.Proofs.Ytadmpfmpmpdbeaa
