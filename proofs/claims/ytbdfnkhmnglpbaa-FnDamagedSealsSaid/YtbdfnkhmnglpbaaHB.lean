/-
  laws.roll and (*dice).below once more: the code lies below a bound that is told. And wrong bits of a sealed frame.
-/
import Derived.Test.YtbdfnkhmnglpbaaH9
import Derived.Test.YtbdfnkhmnglpbaaLawC
import Derived.Test.YtbdfnkhmnglpbaaDrawA
namespace Go.Proofs.Ytbdfnkhmnglpbaa
open Go.RowKit

/-- Block d is a dice whose code lies below B. -/
def DiceB (T B : Nat) (w : World) (d : Nat) : Prop :=
  B ≤ d ∧ ∃ (ao : Option Addr) (n cap : Nat) (cs : List Int) (at_ : Nat) (h : Int), w.heap[d]? = some (.cells #[.slice ao n cap, .int .i64 at_, .int .u64 h] T (0, 0)) ∧ RdB w B ao n cs ∧ n ≤ 1048576 ∧ at_ ≤ n ∧ 0 ≤ h ∧ h ≤ 18446744073709551615
theorem DiceB.lt {T B d : Nat} {w : World} (h : DiceB T B w d) : d < w.heap.size := by
  obtain ⟨_, _, _, _, _, _, _, h, _⟩ := h
  exact (Array.getElem?_eq_some_iff.1 h).1
theorem DiceB.grown {T B d : Nat} {w w' : World} {g : Option Nat} (h : DiceB T B w d) (hg : w.grownBy w' g) (h1 : some d ≠ g) (h2 : ∀ k, g = some k → B ≤ k) : DiceB T B w' d := by
  have hl := h.lt
  obtain ⟨hB, ao, n, cap, cs, a, s, hh, hr, r⟩ := h
  exact ⟨hB, ao, n, cap, cs, a, s, (hg.block d hl h1).trans hh, hr.keep fun b o hb => World.cell?_of_block (a := ⟨b, o, none⟩) (hg.block b (by omega) (fun e => by have := h2 b e.symm; omega)), r⟩
def RolledB (T B : Nat) (w : World) (e : Ending) (w' : World) : Prop :=
  ∃ d, e = .returned (.pointer (some ⟨d, 0, none⟩)) ∧ w.heap.size ≤ d ∧ DiceB T B w' d ∧ Below w.heap.size w w'
def ThrownB (T B : Nat) (w : World) (d : Nat) (n : Int) (e : Ending) (w' : World) : Prop :=
  ∃ x : Int, e = .returned (.int .i64 x) ∧ 0 ≤ x ∧ x < n ∧ DiceB T B w' d ∧ w.grownBy w' (some d)
theorem rollB_any (B : Nat) (ao : Option Addr) (n cap : Nat) (cs : List Int) (s : Int) (w : World) (hr : RdB w B ao n cs) (hB : B ≤ w.heap.size) (hn : n ≤ 1048576) :
    Calls Try.prog 32 #[.slice ao n cap, .int .u64 s] w (RolledB 109 B w) := by
  have HR := Lib.hid hr; clear hr
  go_enter Try.func32, Try.ntmps32
  go_upto_region 2 with fail
  obtain ⟨h00, h01⟩ := wrap_u64_bound (IntKind.u64.wrap (s * 7919) + n)
  generalize IntKind.u64.wrap (IntKind.u64.wrap (s * 7919) + n) = h0 at h00 h01 ⊢
  generalize IntKind.u64.wrap (s * 7919) = s1
  have hal := heap_alloc_new w (.cells #[.slice ao n cap, .int .i64 0, .int .u64 h0] 109)
  have hbl : Below w.heap.size w (w.alloc (.cells #[.slice ao n cap, .int .i64 0, .int .u64 h0] 109)) := (Below.refl _ _).alloc (Nat.le_refl _) _
  generalize w.alloc (.cells #[.slice ao n cap, .int .i64 0, .int .u64 h0] 109) = w1 at hal hbl ⊢
  have HAL := Lib.hid hal; clear hal
  have HBL := Lib.hid hbl; clear hbl
  go_wp2
  go_loopw [6] (fun i wr => ∃ (k : Nat) (h : Int), k ≤ n ∧ i = .int .i64 k ∧ wr.heap[w.heap.size]? = some (.cells #[.slice ao n cap, .int .i64 0, .int .u64 h] 109 (0, 0)) ∧ 0 ≤ h ∧ h ≤ 18446744073709551615 ∧ Below w.heap.size w wr) (fun i _ => n - (intOf i).toNat)
  case atStart => exact ⟨0, h0, Nat.zero_le _, rfl, HAL.out, h00, h01, HBL.out⟩
  case round =>
    clear h00 h01
    obtain ⟨k, h, hk, rfl, hh, hs0, hs1, hbel⟩ := hrel
    have hc2 : wr.cell? ⟨w.heap.size, 2, none⟩ = some (.int .u64 h) := cell_of_row wr w.heap.size 2 _ _ (0, 0) hh
    have hf2 : wr.frozen? ⟨w.heap.size, 2, none⟩ = false := frozen_of_row wr w.heap.size 2 _ _ hh
    have HH := Lib.hid hh; clear hh
    have HB := Lib.hid hbel
    by_cases hlt : k < n
    · obtain ⟨b, off, rfl, hbp, hcode⟩ := HR.out.here (by omega)
      have hck := (hbel.cell (p := ⟨b, off + k, none⟩) (Nat.lt_of_lt_of_le hbp hB)).trans (hcode k hlt)
      have hcb := HR.out.bound k hlt
      clear hcode hbel
      obtain ⟨c, hc⟩ : ∃ c, c = cs.getD k 0 := ⟨_, rfl⟩
      rw [← hc] at hck hcb
      clear hc
      obtain ⟨hcb0, hcb1⟩ := hcb
      go_wp2
      go_region
      obtain ⟨hv0, hv1⟩ := wrap_u64_bound (IntKind.u64.wrap (IntKind.u64.wrap (h * 1099511628211) + c) + 3)
      generalize IntKind.u64.wrap (IntKind.u64.wrap (IntKind.u64.wrap (h * 1099511628211) + c) + 3) = v at hv0 hv1 ⊢
      generalize IntKind.u64.wrap (IntKind.u64.wrap (h * 1099511628211) + c) = v1
      generalize IntKind.u64.wrap (h * 1099511628211) = v2
      go_wp2
      go_roundw
      case rel => exact ⟨k + 1, v, by omega, by go_num, src_seed HH.out, hv0, hv1, (HB.out.setCell (by exact Nat.le_refl _) _).drew⟩
      case measure => simp [intOf]; omega
    · clear hbel
      go_wp2
      go_ret
      exact ⟨_, rfl, Nat.le_refl _, ⟨hB, ao, n, cap, cs, 0, h, HH.out, HR.out.keep fun b o h => HB.out.cell (p := ⟨b, o, none⟩) (Nat.lt_of_lt_of_le h hB), hn, Nat.zero_le _, hs0, hs1⟩, HB.out⟩
theorem belowB_any (B d : Nat) (n : Int) (w : World) (hs : DiceB 109 B w d) (hn0 : 1 ≤ n) (hn : n ≤ 4294967296) :
    Calls Try.prog 33 #[.pointer (some ⟨d, 0, none⟩), .int .i64 n] w (ThrownB 109 B w d n) := by
  obtain ⟨hBd, ao, m, cap, cs, at_, h, hh, hr, hm, hat, h0, h1⟩ := hs
  have hc2 : w.cell? ⟨d, 2, none⟩ = some (.int .u64 h) := cell_of_row w d 2 _ _ (0, 0) hh
  have hf2 : w.frozen? ⟨d, 2, none⟩ = false := frozen_of_row w d 2 _ _ hh
  go_enter Try.func33, Try.ntmps33
  go_upto_region 2 with fail
  obtain ⟨h00, h01⟩ := wrap_u64_bound (IntKind.u64.wrap (h * 6364136223846793005) + 1442695040888963407)
  generalize IntKind.u64.wrap (IntKind.u64.wrap (h * 6364136223846793005) + 1442695040888963407) = h' at h00 h01 ⊢
  generalize IntKind.u64.wrap (h * 6364136223846793005) = q1
  have hh1 := src_seed (y := .int .u64 h') hh
  have hg1 : w.grownBy (w.setCell ⟨d, 2, none⟩ (.int .u64 h')) (some d) := ⟨rfl, rfl, rfl, by simp [World.setCell], fun k _ hk => heap_setCell_other _ ⟨d, 2, none⟩ k _ (fun e => hk (by simp [e]))⟩
  have hr1 : RdB (w.setCell ⟨d, 2, none⟩ (.int .u64 h')) B ao m cs := hr.keep fun b' o h => World.cell?_of_block (heap_setCell_other _ ⟨d, 2, none⟩ b' _ (by simp; omega))
  generalize w.setCell ⟨d, 2, none⟩ (.int .u64 h') = w1 at hh1 hg1 hr1 ⊢
  clear hc2 hf2 hh hr
  have hc0 : w1.cell? ⟨d, 0, none⟩ = some (.slice ao m cap) := cell_of_row w1 d 0 _ _ (0, 0) hh1
  have hc1 : w1.cell? ⟨d, 1, none⟩ = some (.int .i64 at_) := cell_of_row w1 d 1 _ _ (0, 0) hh1
  have hc2 : w1.cell? ⟨d, 2, none⟩ = some (.int .u64 h') := cell_of_row w1 d 2 _ _ (0, 0) hh1
  have hf1 : w1.frozen? ⟨d, 1, none⟩ = false := frozen_of_row w1 d 1 _ _ hh1
  go_upto_region 3 with fail
  obtain ⟨x, hx, hx0, hx1⟩ := and_u24 (h' / 8589934592)
  rw [hx]
  generalize bits .and .u64 (h' / 8589934592) 16777215 = q2
  generalize h' / 8589934592 = q3
  clear hx
  have hD : ∀ k : Nat, DiceB 109 B (w1.drewN k) d := fun k => ⟨hBd, ao, m, cap, cs, at_, h', hh1, hr1.keep fun _ _ _ => rfl, hm, hat, h00, h01⟩
  have HD := Lib.hid hD; clear hD
  have HG := Lib.hid hg1; clear hg1
  by_cases hlt : at_ < m
  · obtain ⟨b, off, rfl, hbp, hcode⟩ := hr1.here (by omega)
    have hck := hcode at_ hlt
    have hcb := hr1.bound at_ hlt
    clear hcode
    obtain ⟨c, hc⟩ : ∃ c, c = cs.getD at_ 0 := ⟨_, rfl⟩
    rw [← hc] at hck hcb
    clear hc
    obtain ⟨hcb0, hcb1⟩ := hcb
    have hs : ∀ k : Nat, ((w1.drewN k).setCell ⟨d, 1, none⟩ (.int .i64 ((at_ : Int) + 1))).heap[d]? = some (.cells #[.slice (some ⟨b, off, none⟩) m cap, .int .i64 ((at_ + 1 : Nat) : Int), .int .u64 h'] 109 (0, 0)) := fun k => src_at (w := w1.drewN k) hh1
    have hD2 : ∀ k : Nat, DiceB 109 B ((w1.drewN k).setCell ⟨d, 1, none⟩ (.int .i64 ((at_ : Int) + 1))) d := fun k =>
      ⟨hBd, _, m, cap, cs, at_ + 1, h', hs k, hr1.keep fun b' o h => World.cell?_of_block (heap_setCell_other (w1.drewN k) ⟨d, 1, none⟩ b' _ (by simp; omega)), hm, by omega, h00, h01⟩
    have hg2 : ∀ k : Nat, w1.grownBy ((w1.drewN k).setCell ⟨d, 1, none⟩ (.int .i64 ((at_ : Int) + 1))) (some d) := fun k => ⟨rfl, rfl, rfl, by simp [World.setCell, World.drewN], fun i _ hi => heap_setCell_other (w1.drewN k) ⟨d, 1, none⟩ i _ (fun e => hi (by simp [e]))⟩
    have HD2 := Lib.hid hD2; clear hD2 hs
    have HG2 := Lib.hid hg2; clear hg2 hr1 hh1
    go_quiet (fail)
    go_wp2
    go_quiet (fail)
    go_wp2
    go_ret
    exact ⟨_, rfl, Int.emod_nonneg _ (by omega), Int.emod_lt_of_pos _ (by omega), HD2.out _, grown_trans HG.out (HG2.out _)⟩
  · clear hr1 hh1
    go_quiet (fail)
    go_wp2
    go_ret
    exact ⟨_, rfl, Int.emod_nonneg _ (by omega), Int.emod_lt_of_pos _ (by omega), HD.out _, grown_trans HG.out (grown_of_below (below_drewN' (Below.refl _ _) _))⟩

/-- While bits of a sealed frame are changed. -/
structure Dmg (w w1 wr : World) (B d g N cap : Nat) (bs r0 : List Int) (lo : Option Addr) (a q t m r s k : Int) (v : Value) (t' m' r' s' k' : Int) : Prop where
  two : Two w1 wr a q t m r s k v t' m' r' s' k'
  dice : DiceB 109 B wr d
  own : Own 2 wr (w1.heap.size + 2) (.slice (some ⟨g, 0, none⟩) N cap) bs
  list : Rd wr lo r0.length r0
  below : Below w.heap.size w wr
  hw : w.heap.size ≤ w1.heap.size
  hB : B ≤ w.heap.size
  hd : w1.heap.size + 2 ≤ d
  hgd : g ≠ d
  hlo : ∀ b off, lo = some ⟨b, off, none⟩ → b ≠ g ∧ b ≠ d
section
variable {w w1 wr wj : World} {B d g N cap : Nat} {bs r0 : List Int} {lo : Option Addr} {a q t m r s k : Int} {v : Value} {t' m' r' s' k' : Int}
theorem Dmg.hg (h : Dmg w w1 wr B d g N cap bs r0 lo a q t m r s k v t' m' r' s' k') : w1.heap.size + 2 ≤ g := (h.own.block g rfl).1
theorem Dmg.throw (h : Dmg w w1 wr B d g N cap bs r0 lo a q t m r s k v t' m' r' s' k') (hs : DiceB 109 B wj d) (hg : wr.grownBy wj (some d)) : Dmg w w1 wj B d g N cap bs r0 lo a q t m r s k v t' m' r' s' k' :=
  have h1 := h.hd
  have h2 := h.hw
  ⟨⟨h.two.fr.grown hg (by simp; omega), h.two.st.grown hg (by simp; omega), only_below h.two.below hg h.two.below.size (fun k hk => by cases hk; omega)⟩, hs,
   h.own.only hg (.inr (fun e => h.hgd (by simpa [Value.ownBlock] using e))), h.list.only hg (fun b off e he => (h.hlo b off e).2 (by simpa using he.symm)), only_below h.below hg h.below.size (fun k hk => by cases hk; omega), h.hw, h.hB, h.hd, h.hgd, h.hlo⟩
theorem Dmg.store (h : Dmg w w1 wr B d g N cap bs r0 lo a q t m r s k v t' m' r' s' k') (hl : bs.length = N) {i : Nat} (hi : i < N) (y : Int) : Dmg w w1 (wr.setCell ⟨g, i, none⟩ (.int .i64 y)) B d g N cap (bs.set i y) r0 lo a q t m r s k v t' m' r' s' k' :=
  have hg := grown_setCell wr g i (.int .i64 y)
  have h0 := h.hg
  have h1 := h.hgd
  have h2 := h.hw
  have h3 := h.hB
  have o := own_store h.own hl hi y
  ⟨⟨h.two.fr.grown hg (by simp; omega), h.two.st.grown hg (by simp; omega), only_below h.two.below hg h.two.below.size (fun k hk => by cases hk; omega)⟩, h.dice.grown hg (by simp; omega) (fun k hk => by cases hk; omega),
   o.2.2.1, h.list.only hg (fun b off e he => (h.hlo b off e).1 (by simpa using he.symm)), only_below h.below hg h.below.size (fun k hk => by cases hk; omega), h.hw, h.hB, h.hd, h.hgd, h.hlo⟩
end
theorem rdB_more {w w' : World} {n B : Nat} {ao : Option Addr} {cs : List Int} (h : RdB w B ao n cs) (hB : B ≤ w.heap.size) (b : Below w.heap.size w w') : RdB w' B ao n cs := h.keep fun b' o hb => b.cell (p := ⟨b', o, none⟩) (Nat.lt_of_lt_of_le hb hB)
theorem take_set2 {xs : List Int} {i : Nat} (h : 2 ≤ i) (y : Int) : (xs.set i y).take 2 = xs.take 2 := by
  rw [List.take_set_of_le h]
theorem bits_set {xs : List Int} (hb : ∀ x ∈ xs, 0 ≤ x ∧ x ≤ 1) {i : Nat} {y : Int} (hy : 0 ≤ y ∧ y ≤ 1) : ∀ x ∈ xs.set i y, 0 ≤ x ∧ x ≤ 1 := by
  intro x hx
  rcases List.mem_or_eq_of_mem_set hx with h | rfl
  · exact hb x h
  · exact hy
end Go.Proofs.Ytbdfnkhmnglpbaa
