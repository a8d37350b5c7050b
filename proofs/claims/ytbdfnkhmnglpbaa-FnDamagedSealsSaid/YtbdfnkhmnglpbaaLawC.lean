/-
  laws.roll and (*dice).below: numbers drawn from a code by the laws themselves.
  What the laws of chapter 2 walk with: slices and a struct kept beside each other; plain facts on check numbers.
  Slices of the call's own beside a dice, two of them appended to in turn; FnCrcLinear's loop in plain words.
  spec.DrawHasCrc; a list with its check number.
  Check numbers of bytes follow from the table, and are those of their bits: plain facts.
-/
import Derived.Test.YtbdfnkhmnglpbaaDrawA
import Derived.Deep.CutRange
import Derived.Deep.CutBlock
import Derived.Test.YtbdfnkhmnglpbaaDrawC
import Derived.Maps.AppendAt
namespace Go.Proofs.Ytbdfnkhmnglpbaa
section
open Go.RowKit

/-- Block d is a dice: a code that lies below it, how far it has been read, and a state. T: the number of the struct's type. -/
def Dice (T : Nat) (w : World) (d : Nat) : Prop :=
  ∃ (ao : Option Addr) (n cap : Nat) (cs : List Int) (at_ : Nat) (h : Int), w.heap[d]? = some (.cells #[.slice ao n cap, .int .i64 at_, .int .u64 h] T (0, 0)) ∧ RdB w d ao n cs ∧ n ≤ 1048576 ∧ at_ ≤ n ∧ 0 ≤ h ∧ h ≤ 18446744073709551615
section
variable {T : Nat} {w w' : World} {d : Nat}
theorem Dice.lt (h : Dice T w d) : d < w.heap.size := by
  obtain ⟨_, _, _, _, _, _, h, _⟩ := h
  exact (Array.getElem?_eq_some_iff.1 h).1
theorem Dice.belowB {B : Nat} (h : Dice T w d) (hb : Below B w w') (hp : d < B) : Dice T w' d := by
  obtain ⟨ao, n, cap, cs, a, s, hh, hr, r⟩ := h
  exact ⟨ao, n, cap, cs, a, s, (hb.block d hp).trans hh, hr.keep fun b o h => hb.cell (p := ⟨b, o, none⟩) (by exact Nat.lt_trans h hp), r⟩
theorem Dice.below (h : Dice T w d) (hb : Below w.heap.size w w') : Dice T w' d := h.belowB hb h.lt
end
/-- What roll leaves: a dice in a new block. -/
def Rolled (T : Nat) (w : World) (e : Ending) (w' : World) : Prop :=
  ∃ d, e = .returned (.pointer (some ⟨d, 0, none⟩)) ∧ w.heap.size ≤ d ∧ Dice T w' d ∧ Below w.heap.size w w'
theorem wrap_u64_bound (x : Int) : 0 ≤ IntKind.u64.wrap x ∧ IntKind.u64.wrap x ≤ 18446744073709551615 := by rw [IntKind.wrap_u64]; omega

theorem and_u24 (q : Int) : ∃ x : Int, wrap64 (bits .and .u64 q 16777215) = x ∧ 0 ≤ x ∧ x ≤ 16777215 := by
  have h1 : (BitVec.ofInt 64 16777215).toNat = 16777215 := by decide
  have h2 : (BitVec.ofInt 64 q &&& BitVec.ofInt 64 16777215).toNat ≤ 16777215 := by
    rw [BitVec.toNat_and, h1]; exact Nat.and_le_right
  have e : bits .and .u64 q 16777215 = (((BitVec.ofInt 64 q &&& BitVec.ofInt 64 16777215).toNat : Nat) : Int) := by
    show IntKind.u64.wrap ((BitVec.ofInt 64 q &&& BitVec.ofInt 64 16777215).toNat : Nat) = _
    rw [IntKind.wrap_u64]; omega
  refine ⟨_, rfl, ?_⟩
  rw [e]
  unfold wrap64
  omega
/-- What a throw leaves. -/
def Thrown (T : Nat) (w : World) (d : Nat) (n : Int) (e : Ending) (w' : World) : Prop :=
  ∃ x : Int, e = .returned (.int .i64 x) ∧ 0 ≤ x ∧ x < n ∧ Dice T w' d ∧ w.grownBy w' (some d)
theorem roll_any (ao : Option Addr) (n cap : Nat) (cs : List Int) (s : Int) (w : World) (hr : RdB w w.heap.size ao n cs) (hn : n ≤ 1048576) :
    Calls Try.prog 32 #[.slice ao n cap, .int .u64 s] w (Rolled 109 w) := by
  have HR := Lib.hid hr; clear hr
  go_enter Try.func32, Try.ntmps32
  go_upto_region 2 with fail
  obtain ⟨h00, h01⟩ := wrap_u64_bound (IntKind.u64.wrap (s * 7919) + n)
  generalize IntKind.u64.wrap (IntKind.u64.wrap (s * 7919) + n) = h0 at h00 h01 ⊢
  generalize IntKind.u64.wrap (s * 7919) = s1
  have hal := heap_alloc_new w (.cells #[.slice ao n cap, .int .i64 0, .int .u64 h0] 109)
  have hbl : Below w.heap.size w (w.alloc (.cells #[.slice ao n cap, .int .i64 0, .int .u64 h0] 109)) := (Below.refl _ _).alloc (Nat.le_refl _) _
  generalize w.alloc (.cells #[.slice ao n cap, .int .i64 0, .int .u64 h0] 109) = w1 at hal hbl ⊢
  have HAL := Lib.hid hal; clear hal
  have HBL := Lib.hid hbl; clear hbl
  go_wp2
  go_loopw [6] (fun i wr => ∃ (k : Nat) (h : Int), k ≤ n ∧ i = .int .i64 k ∧ wr.heap[w.heap.size]? = some (.cells #[.slice ao n cap, .int .i64 0, .int .u64 h] 109 (0, 0)) ∧ 0 ≤ h ∧ h ≤ 18446744073709551615 ∧ Below w.heap.size w wr) (fun i _ => n - (intOf i).toNat)
  case atStart => exact ⟨0, h0, Nat.zero_le _, rfl, HAL.out, h00, h01, HBL.out⟩
  case round =>
    clear h00 h01
    obtain ⟨k, h, hk, rfl, hh, hs0, hs1, hbel⟩ := hrel
    have hc2 : wr.cell? ⟨w.heap.size, 2, none⟩ = some (.int .u64 h) := cell_of_row wr w.heap.size 2 _ _ (0, 0) hh
    have hf2 : wr.frozen? ⟨w.heap.size, 2, none⟩ = false := frozen_of_row wr w.heap.size 2 _ _ hh
    have HH := Lib.hid hh; clear hh
    have HB := Lib.hid hbel
    by_cases hlt : k < n
    · obtain ⟨b, off, rfl, hbp, hcode⟩ := HR.out.here (by omega)
      have hck := (hbel.cell (p := ⟨b, off + k, none⟩) hbp).trans (hcode k hlt)
      have hcb := HR.out.bound k hlt
      clear hcode hbel
      obtain ⟨c, hc⟩ : ∃ c, c = cs.getD k 0 := ⟨_, rfl⟩
      rw [← hc] at hck hcb
      clear hc
      obtain ⟨hcb0, hcb1⟩ := hcb
      go_wp2
      go_region
      obtain ⟨hv0, hv1⟩ := wrap_u64_bound (IntKind.u64.wrap (IntKind.u64.wrap (h * 1099511628211) + c) + 3)
      generalize IntKind.u64.wrap (IntKind.u64.wrap (IntKind.u64.wrap (h * 1099511628211) + c) + 3) = v at hv0 hv1 ⊢
      generalize IntKind.u64.wrap (IntKind.u64.wrap (h * 1099511628211) + c) = v1
      generalize IntKind.u64.wrap (h * 1099511628211) = v2
      go_wp2
      go_roundw
      case rel => exact ⟨k + 1, v, by omega, by go_num, src_seed HH.out, hv0, hv1, (HB.out.setCell (by exact Nat.le_refl _) _).drew⟩
      case measure => simp [intOf]; omega
    · clear hbel
      go_wp2
      go_ret
      exact ⟨_, rfl, Nat.le_refl _, ⟨ao, n, cap, cs, 0, h, HH.out, HR.out.keep fun b o h => HB.out.cell (p := ⟨b, o, none⟩) h, hn, Nat.zero_le _, hs0, hs1⟩, HB.out⟩
theorem below_any (d : Nat) (n : Int) (w : World) (hs : Dice 109 w d) (hn0 : 1 ≤ n) (hn : n ≤ 4294967296) :
    Calls Try.prog 33 #[.pointer (some ⟨d, 0, none⟩), .int .i64 n] w (Thrown 109 w d n) := by
  obtain ⟨ao, m, cap, cs, at_, h, hh, hr, hm, hat, h0, h1⟩ := hs
  have hc2 : w.cell? ⟨d, 2, none⟩ = some (.int .u64 h) := cell_of_row w d 2 _ _ (0, 0) hh
  have hf2 : w.frozen? ⟨d, 2, none⟩ = false := frozen_of_row w d 2 _ _ hh
  go_enter Try.func33, Try.ntmps33
  go_upto_region 2 with fail
  obtain ⟨h00, h01⟩ := wrap_u64_bound (IntKind.u64.wrap (h * 6364136223846793005) + 1442695040888963407)
  generalize IntKind.u64.wrap (IntKind.u64.wrap (h * 6364136223846793005) + 1442695040888963407) = h' at h00 h01 ⊢
  generalize IntKind.u64.wrap (h * 6364136223846793005) = q1
  have hh1 := src_seed (y := .int .u64 h') hh
  have hg1 : w.grownBy (w.setCell ⟨d, 2, none⟩ (.int .u64 h')) (some d) := ⟨rfl, rfl, rfl, by simp [World.setCell], fun k _ hk => heap_setCell_other _ ⟨d, 2, none⟩ k _ (fun e => hk (by simp [e]))⟩
  have hr1 : RdB (w.setCell ⟨d, 2, none⟩ (.int .u64 h')) d ao m cs := hr.keep fun b' o h => World.cell?_of_block (heap_setCell_other _ ⟨d, 2, none⟩ b' _ (by simp; omega))
  generalize w.setCell ⟨d, 2, none⟩ (.int .u64 h') = w1 at hh1 hg1 hr1 ⊢
  clear hc2 hf2 hh hr
  have hc0 : w1.cell? ⟨d, 0, none⟩ = some (.slice ao m cap) := cell_of_row w1 d 0 _ _ (0, 0) hh1
  have hc1 : w1.cell? ⟨d, 1, none⟩ = some (.int .i64 at_) := cell_of_row w1 d 1 _ _ (0, 0) hh1
  have hc2 : w1.cell? ⟨d, 2, none⟩ = some (.int .u64 h') := cell_of_row w1 d 2 _ _ (0, 0) hh1
  have hf1 : w1.frozen? ⟨d, 1, none⟩ = false := frozen_of_row w1 d 1 _ _ hh1
  go_upto_region 3 with fail
  obtain ⟨x, hx, hx0, hx1⟩ := and_u24 (h' / 8589934592)
  rw [hx]
  generalize bits .and .u64 (h' / 8589934592) 16777215 = q2
  generalize h' / 8589934592 = q3
  clear hx
  have hD : ∀ k : Nat, Dice 109 (w1.drewN k) d := fun k => ⟨ao, m, cap, cs, at_, h', hh1, hr1.keep fun _ _ _ => rfl, hm, hat, h00, h01⟩
  have HD := Lib.hid hD; clear hD
  have HG := Lib.hid hg1; clear hg1
  by_cases hlt : at_ < m
  · obtain ⟨b, off, rfl, hbp, hcode⟩ := hr1.here (by omega)
    have hck := hcode at_ hlt
    have hcb := hr1.bound at_ hlt
    clear hcode
    obtain ⟨c, hc⟩ : ∃ c, c = cs.getD at_ 0 := ⟨_, rfl⟩
    rw [← hc] at hck hcb
    clear hc
    obtain ⟨hcb0, hcb1⟩ := hcb
    have hs : ∀ k : Nat, ((w1.drewN k).setCell ⟨d, 1, none⟩ (.int .i64 ((at_ : Int) + 1))).heap[d]? = some (.cells #[.slice (some ⟨b, off, none⟩) m cap, .int .i64 ((at_ + 1 : Nat) : Int), .int .u64 h'] 109 (0, 0)) := fun k => src_at (w := w1.drewN k) hh1
    have hD2 : ∀ k : Nat, Dice 109 ((w1.drewN k).setCell ⟨d, 1, none⟩ (.int .i64 ((at_ : Int) + 1))) d := fun k =>
      ⟨_, m, cap, cs, at_ + 1, h', hs k, hr1.keep fun b' o h => World.cell?_of_block (heap_setCell_other (w1.drewN k) ⟨d, 1, none⟩ b' _ (by simp; omega)), hm, by omega, h00, h01⟩
    have hg2 : ∀ k : Nat, w1.grownBy ((w1.drewN k).setCell ⟨d, 1, none⟩ (.int .i64 ((at_ : Int) + 1))) (some d) := fun k => ⟨rfl, rfl, rfl, by simp [World.setCell, World.drewN], fun i _ hi => heap_setCell_other (w1.drewN k) ⟨d, 1, none⟩ i _ (fun e => hi (by simp [e]))⟩
    have HD2 := Lib.hid hD2; clear hD2 hs
    have HG2 := Lib.hid hg2; clear hg2 hr1 hh1
    go_quiet (fail)
    go_wp2
    go_quiet (fail)
    go_wp2
    go_ret
    exact ⟨_, rfl, Int.emod_nonneg _ (by omega), Int.emod_lt_of_pos _ (by omega), HD2.out _, grown_trans HG.out (HG2.out _)⟩
  · clear hr1 hh1
    go_quiet (fail)
    go_wp2
    go_ret
    exact ⟨_, rfl, Int.emod_nonneg _ (by omega), Int.emod_lt_of_pos _ (by omega), HD.out _, grown_trans HG.out (grown_of_below (below_drewN' (Below.refl _ _) _))⟩
end

section
open Go.RowKit

/-- Slices of the call's own beside block C, a struct of two numbers. -/
structure HeldC (E T : Nat) (w0 w : World) (C : Nat) (x y : Int) (L : List (Value × List Int)) : Prop where
  held : Held E w0 w L
  st : StructAt T w C x y
section
variable {E T : Nat} {w0 w w' : World} {C : Nat} {x y : Int} {L : List (Value × List Int)} {v : Value} {xs : List Int}
theorem HeldC.still (h : HeldC E T w0 w C x y L) (b : Below w.heap.size w w') : HeldC E T w0 w' C x y L := ⟨h.held.still b, h.st.below b h.st.lt⟩
theorem HeldC.make (h : HeldC E T w0 w C x y L) (o : Own E w' w.heap.size v xs) (b : Below w.heap.size w w') : HeldC E T w0 w' C x y ((v, xs) :: L) := ⟨h.held.make o b, h.st.below b h.st.lt⟩
theorem HeldC.rd {ao : Option Addr} {n cap : Nat} (h : HeldC E T w0 w C x y L) (i : Nat) (hi : L[i]? = some (.slice ao n cap, xs)) (hl : xs.length = n) : Rd w ao n xs := h.held.rd i hi hl
theorem HeldC.get (h : HeldC E T w0 w C x y L) (i : Nat) (hi : L[i]? = some (v, xs)) : Own E w w0.heap.size v xs := h.held.get i hi
theorem HeldC.below (h : HeldC E T w0 w C x y L) : Below w0.heap.size w0 w := h.held.below
theorem HeldC.start (o : Own E w' w.heap.size v xs) (b : Below w.heap.size w w') : HeldC E T w (w'.alloc (.cells #[.int .i64 x, .int .i64 y] T)) w'.heap.size x y [(v, xs)] :=
  ⟨(Held.start.make o b).still ((Below.refl _ _).alloc (Nat.le_refl _) _), StructAt.new w'⟩
/-- A call that made a block d, and one that wrote into this block alone. -/
theorem below_thrown {w w1 w2 : World} {d : Nat} (b : Below w.heap.size w w1) (g : w1.grownBy w2 (some d)) (hd : w.heap.size ≤ d) : Below w.heap.size w w2 := b.grown g b.size (fun k hk => by cases hk; exact hd)
end
/-- The check number of a valid list for a valid code. -/
theorem cob_put {W : Nat} {g : BitVec W} (r : BitVec W) (h1 : 3 ≤ W) (h2 : W ≤ 24) (hg : g.getLsbD 0 = true) {xs : List Int} (hb : isBits xs = true) : crcOfBits (W : Int) (g.toNat : Int) (r.toNat : Int) xs = (regOf g r xs, 0) := by
  rw [cob_0 (crcCode_put r h1 h2 hg) hb, crcRaw_eq]
theorem isBits_part {xs ys : List Int} (h : isBits xs = true) (hl : ys.length ≤ xs.length) (hm : ∀ y ∈ ys, y ∈ xs) : isBits ys = true := by
  have h := isBits_iff.1 h
  exact isBits_iff.2 ⟨by omega, fun y hy => h.2 y (hm y hy)⟩
/-- Feeding a prefix is the same as starting with the seed after it. -/
theorem prefix_round {wd p s r0 : Int} {xs : List Int} (h : crcOfBits wd p s xs = (r0, 0)) (k : Nat) : ∃ a, crcOfBits wd p s (xs.take k) = (a, 0) ∧ crcOfBits wd p a (xs.drop k) = (r0, 0) := by
  obtain ⟨W, g, r, rfl, h1, h2, rfl, h3, rfl, hb, hv⟩ := cob_get (wd := wd) (p := p) (s := s) (xs := xs) (by rw [h])
  rw [h] at hv
  have hv : r0 = regOf g r xs := hv
  refine ⟨regOf g r (xs.take k), cob_put r h1 h2 h3 (isBits_part hb (by rw [List.length_take]; omega) fun y hy => List.mem_of_mem_take hy), ?_⟩
  have e := cob_put (fbs g r (bl (xs.take k))) h1 h2 h3 (xs := xs.drop k) (isBits_part hb (by rw [List.length_drop]; omega) fun y hy => List.mem_of_mem_drop hy)
  unfold regOf at e hv ⊢
  rw [e, hv, ← fbs_append, ← bl_append, List.take_append_drop]
end

section
open Go.RowKit

theorem Dice.grown {T d : Nat} {w w' : World} {g : Option Nat} (h : Dice T w d) (hb : w.grownBy w' g) (hg : ∀ k, g = some k → d < k) : Dice T w' d := by
  have hlt := h.lt
  obtain ⟨ao, n, cap, cs, a, s, hh, hr, r⟩ := h
  have hne : ∀ k, k ≤ d → some k ≠ g := fun k hk e => by have := hg k e.symm; omega
  exact ⟨ao, n, cap, cs, a, s, (hb.block d hlt (hne d (Nat.le_refl _))).trans hh,
    hr.keep fun b o h => World.cell?_of_block (a := ⟨b, o, none⟩) (hb.block b (by omega) (hne b (by omega))), r⟩
/-- Since w0 nothing old has changed; block d, laid since then, is a dice; every slice of L is the call's own, behind d; no two of them share a block. -/
structure HeldD (E T : Nat) (w0 w : World) (d : Nat) (L : List (Value × List Int)) : Prop where
  below : Below w0.heap.size w0 w
  lo : w0.heap.size ≤ d
  dice : Dice T w d
  own : ∀ q ∈ L, Own E w (d + 1) q.1 q.2
  apart : L.Pairwise fun q r => ∀ k, q.1.ownBlock = some k → r.1.ownBlock ≠ some k
section
variable {E T : Nat} {w0 w w' : World} {d : Nat} {L : List (Value × List Int)} {v v' : Value} {xs ys : List Int}
theorem HeldD.start (b : Below w0.heap.size w0 w) (hl : w0.heap.size ≤ d) (hs : Dice T w d) : HeldD E T w0 w d [] := ⟨b, hl, hs, (fun _ h => by cases h), List.Pairwise.nil⟩
theorem HeldD.still (h : HeldD E T w0 w d L) (b : Below w.heap.size w w') : HeldD E T w0 w' d L :=
  ⟨below_two h.below b, h.lo, h.dice.below b, fun q hq => (h.own q hq).below b, h.apart⟩
theorem HeldD.throw_ (h : HeldD E T w0 w d L) (hs : Dice T w' d) (g : w.grownBy w' (some d)) : HeldD E T w0 w' d L :=
  ⟨h.below.grown g h.below.size (fun k hk => by cases hk; exact h.lo), h.lo, hs, fun q hq => (h.own q hq).src g (by omega), h.apart⟩
theorem HeldD.make (h : HeldD E T w0 w d L) (o : Own E w' w.heap.size v xs) (b : Below w.heap.size w w') : HeldD E T w0 w' d ((v, xs) :: L) := by
  have h' := h.still b
  refine ⟨h'.below, h'.lo, h'.dice, fun q hq => ?_, List.Pairwise.cons (fun q hq k hk e => ?_) h.apart⟩
  · rcases List.mem_cons.1 hq with rfl | hq
    · exact o.more h.dice.lt
    · exact h'.own q hq
  · have h1 := (o.block k hk).1
    have h2 := ((h.own q hq).block k e).2
    omega
theorem HeldD.push (L1 : List (Value × List Int)) {L2 : List (Value × List Int)} (h : HeldD E T w0 w d (L1 ++ (v, xs) :: L2)) (o : Own E w' (d + 1) v' ys) (g : w.grownBy w' v.ownBlock) (hb : v'.ownBlock = v.ownBlock ∨ v'.ownBlock = some w.heap.size) : HeldD E T w0 w' d (L1 ++ (v', ys) :: L2) := by
  have ho := h.own
  have ha := h.apart
  have hk0 : ∀ k, v.ownBlock = some k → d < k := fun k hk => ((ho (v, xs) (by simp)).block k hk).1
  have hlo := h.lo
  refine ⟨h.below.grown g h.below.size (fun k hk => by have := hk0 k hk; omega), hlo, h.dice.grown g hk0, fun p hp => ?_, ?_⟩
  · rw [List.mem_append, List.mem_cons] at hp
    rw [List.pairwise_append, List.pairwise_cons] at ha
    rcases hp with hp | rfl | hp
    · refine (ho p (by simp [hp])).only g ?_
      cases hk : p.1.ownBlock with
      | none => exact .inl rfl
      | some k => exact .inr (fun e => ha.2.2 p hp (v, xs) (by simp) k hk e.symm)
    · exact o
    · refine (ho p (by simp [hp])).only g ?_
      cases hk : p.1.ownBlock with
      | none => exact .inl rfl
      | some k => exact .inr (fun e => ha.2.1.1 p hp k e.symm hk)
  · rw [List.pairwise_append, List.pairwise_cons] at ha ⊢
    refine ⟨ha.1, ⟨fun q hq k hk e => ?_, ha.2.1.2⟩, fun p hp q hq k hk => ?_⟩
    · rcases hb with hb | hb
      · exact ha.2.1.1 q hq k (hb ▸ hk) e
      · have h1 := ((ho q (by simp [hq])).block k e).2
        rw [hb] at hk
        cases hk
        omega
    · rcases List.mem_cons.1 hq with rfl | hq
      · intro e
        rcases hb with hb | hb
        · exact ha.2.2 p hp (v, xs) (by simp) k hk (hb ▸ e)
        · have h1 := ((ho p (by simp [hp])).block k hk).2
          rw [hb] at e
          cases e
          omega
      · exact ha.2.2 p hp q (by simp [hq]) k hk
theorem HeldD.get (h : HeldD E T w0 w d L) (i : Nat) (hi : L[i]? = some (v, xs)) : Own E w (d + 1) v xs := h.own (v, xs) (List.mem_of_getElem? hi)
theorem HeldD.rd {ao : Option Addr} {n cap : Nat} (h : HeldD E T w0 w d L) (i : Nat) (hi : L[i]? = some (.slice ao n cap, xs)) (_ : xs.length = n) : Rd w ao n xs := by
  obtain ⟨ao', cap', e, o, r⟩ := (h.get i hi).get
  cases e
  exact r
end
section
variable {P : Program} {E T : Nat} (w : World) {ops : Array Oper} {rest : List Oper} {o : Oper} {a : Act} {Q : Exit → Act → World → Prop}
/-- 'append(out, x)' of one number, with what it leaves of the block. -/
theorem append_push (hgd : o.guard = none) (s x : Operand)
    (ho : o.op = .call { callee := .builtin .append, args := #[s, x], argTypes := #[T, T] })
    (base : Nat) (ht : P.underlying T = some (.slice E)) (hi : Info64 P E)
    (v : Value) (xs : List Int) (hs : a.eval s = v) (hown : Own E w base v xs) (b : Nat) (y : Int) (c : Nat) (hx : a.eval x = .slice (some ⟨b, 0, none⟩) 1 c) (hc : w.cell? ⟨b, 0, none⟩ = some (.int .i64 y))
    (hlen : xs.length ≤ 4294967296) (hbase : base ≤ w.heap.size)
    (h : ∀ v' w', Own E w' base v' (xs ++ [y]) → w.grownBy w' v.ownBlock → (v'.ownBlock = v.ownBlock ∨ v'.ownBlock = some w.heap.size) → wpList P ops Q rest (a.put o.dst v') w') : wpList P ops Q (o :: rest) a w := by
  obtain ⟨i0, hi, hz0, hz1, hz2⟩ := info_parts hi
  refine wpList_append_own_at w hgd s x T ho base E i0 (.int .i64 0) 1 8 ht hi hz0 hz1 hz2 rfl (by decide) v xs.length _ hs hown ⟨b, 0, none⟩ 1 c [.int .i64 y] hx rfl ?_ ?_ (by unfold maxLen; omega) (by omega) hbase ?_
  · intro j u hj
    match j, hj with
    | 0, hj => simp at hj; subst hj; simpa [Addr.add] using hc
  · intro u hu; simp at hu; subst hu; rfl
  · intro v' w' h1 h2 _ h3
    refine h v' w' ?_ h2 h3
    unfold Own
    simpa using h1
theorem step_push {K : Act → World → Prop} {E' : Prop} (hgd : o.guard = none) (s x : Operand)
    (ho : o.op = .call { callee := .builtin .append, args := #[s, x], argTypes := #[T, T] })
    (base : Nat) (ht : P.underlying T = some (.slice E)) (hi : Info64 P E)
    (v : Value) (xs : List Int) (hs : a.eval s = v) (hown : Own E w base v xs) (b : Nat) (y : Int) (c : Nat) (hx : a.eval x = .slice (some ⟨b, 0, none⟩) 1 c) (hc : w.cell? ⟨b, 0, none⟩ = some (.int .i64 y))
    (hlen : xs.length ≤ 4294967296) (hbase : base ≤ w.heap.size)
    (h : ∀ v' w', Own E w' base v' (xs ++ [y]) → w.grownBy w' v.ownBlock → (v'.ownBlock = v.ownBlock ∨ v'.ownBlock = some w.heap.size) → K (a.put o.dst v') w') : if Region.wanted o (yielded ops a.tmps) = true then Oper.wp P o a w K Q else E' := by
  obtain ⟨i0, hi, hz0, hz1, hz2⟩ := info_parts hi
  refine step_append_lies w hgd s x T ho base E i0 (.int .i64 0) 1 8 ht hi hz0 hz1 hz2 rfl (by decide) v xs.length _ hs hown ⟨b, 0, none⟩ 1 c [.int .i64 y] hx rfl ?_ ?_ (by decide) (by unfold maxLen; omega) (by omega) hbase w.heap.size rfl ?_
  · intro j u hj
    match j, hj with
    | 0, hj => simp at hj; subst hj; simpa [Addr.add] using hc
  · intro u hu; simp at hu; subst hu; rfl
  · intro g cap w' h1 h2 h3 _
    refine h _ w' ?_ h2 ?_
    · unfold Own; simpa using h1
    · show some g = _ ∨ some g = _
      rcases h3 with h3 | h3
      · exact .inl h3.symm
      · exact .inr (by rw [h3])
end

/-- Two lists of noughts and ones, added bit by bit. -/
def xorL (xs ys : List Int) : List Int := List.zipWith (fun a e => bits .xor .i64 a e) xs ys
theorem xorL_len (xs ys : List Int) (h : xs.length = ys.length) : (xorL xs ys).length = ys.length := by unfold xorL; rw [List.length_zipWith]; omega
theorem xorL_snoc (xs ys : List Int) (h : xs.length = ys.length) (a e : Int) : xorL (xs ++ [a]) (ys ++ [e]) = xorL xs ys ++ [bits .xor .i64 a e] := by
  unfold xorL; rw [List.zipWith_append h]; rfl
theorem bit_xor (a e : Int) (ha : 0 ≤ a ∧ a ≤ 1) (he : 0 ≤ e ∧ e ≤ 1) : (0 ≤ bits .xor .i64 a e ∧ bits .xor .i64 a e ≤ 1) ∧ decide (bits .xor .i64 a e = 1) = (decide (a = 1) ^^ decide (e = 1)) := by
  have h1 : a = 0 ∨ a = 1 := by omega
  have h2 : e = 0 ∨ e = 1 := by omega
  rcases h1 with rfl | rfl <;> rcases h2 with rfl | rfl <;> decide
theorem xorL_bl : ∀ (xs ys : List Int), xs.length = ys.length → (∀ x ∈ xs, 0 ≤ x ∧ x ≤ 1) → (∀ y ∈ ys, 0 ≤ y ∧ y ≤ 1) → bl (xorL xs ys) = List.zipWith (· ^^ ·) (bl xs) (bl ys) ∧ ∀ z ∈ xorL xs ys, 0 ≤ z ∧ z ≤ 1
  | [], [], _, _, _ => ⟨rfl, fun _ h => by cases h⟩
  | x :: xs, y :: ys, h, hx, hy => by
    obtain ⟨h1, h2⟩ := xorL_bl xs ys (by simpa using h) (fun a ha => hx a (by simp [ha])) (fun a ha => hy a (by simp [ha]))
    obtain ⟨h3, h4⟩ := bit_xor x y (hx x (by simp)) (hy y (by simp))
    refine ⟨?_, fun z hz => ?_⟩
    · show decide (bits .xor .i64 x y = 1) :: bl (xorL xs ys) = _
      rw [h1, h4]; rfl
    · rcases List.mem_cons.1 hz with rfl | hz
      · exact h3
      · exact h2 z hz
  | [], _ :: _, h, _, _ => by simp at h
  | _ :: _, [], h, _, _ => by simp at h
/-- The exclusive or of two check numbers is the syndrome of the differences. -/
theorem linear_round {wd p r0 : Int} {xs : List Int} (h : crcOfBits wd p 0 xs = (r0, 0)) : ∃ W : Nat, wd = (W : Int) ∧ 3 ≤ W ∧ W ≤ 24 ∧ (∀ x ∈ xs, 0 ≤ x ∧ x ≤ 1) ∧
    ∀ (s : Int) (az : List Int), 0 ≤ s → s < 2 ^ W → az.length = xs.length → (∀ a ∈ az, 0 ≤ a ∧ a ≤ 1) → ∃ x y, crcOfBits wd p s az = (x, 0) ∧ crcOfBits wd p s (xorL az xs) = (y, 0) ∧ bits .xor .i64 x y = r0 := by
  obtain ⟨W, g, r, rfl, h1, h2, rfl, h3, hs0, hb, hv⟩ := cob_get (wd := wd) (p := p) (s := 0) (xs := xs) (by rw [h])
  rw [h] at hv
  have hv : r0 = regOf g r xs := hv
  have hr : r = 0#W := by apply BitVec.eq_of_toNat_eq; rw [show (0#W).toNat = 0 from by simp]; omega
  have hxs := (isBits_iff.1 hb).2
  refine ⟨W, rfl, h1, h2, hxs, fun s az h0 hlt hl ha => ?_⟩
  have e2 : ((2 ^ W : Nat) : Int) = (2 : Int) ^ W := by simp
  obtain ⟨q, rfl⟩ := Int.eq_ofNat_of_zero_le h0
  have hq : q < 2 ^ W := by omega
  have hqe : (q : Int) = ((BitVec.ofNat W q).toNat : Int) := by rw [BitVec.toNat_ofNat, Nat.mod_eq_of_lt hq]
  obtain ⟨hbl, hxb⟩ := xorL_bl az xs hl ha hxs
  have hln := xorL_len az xs hl
  have hn := (isBits_iff.1 hb).1
  have ea := cob_put (BitVec.ofNat W q) h1 h2 h3 (xs := az) (isBits_iff.2 ⟨by omega, ha⟩)
  have eb := cob_put (BitVec.ofNat W q) h1 h2 h3 (xs := xorL az xs) (isBits_iff.2 ⟨by omega, hxb⟩)
  rw [← hqe] at ea eb
  refine ⟨_, _, ea, eb, ?_⟩
  have hx := fbs_xor (g := g) (bl az) (bl xs) (BitVec.ofNat W q) (0#W) (by rw [bl_len, bl_len]; exact hl)
  rw [BitVec.xor_zero, ← hbl] at hx
  unfold regOf at hv ⊢
  rw [reg_xor h2, hx, ← BitVec.xor_assoc, BitVec.xor_self, BitVec.zero_xor, hv, hr]
end

section
open Go.RowKit

/-- A list with its check number has it, and leaves the register 0. -/
theorem appended_round {wd p s : Int} {xs out : List Int} (h : appendCrc wd p s xs = (out, 0)) : ∃ W : Nat, wd = (W : Int) ∧ 3 ≤ W ∧ W ≤ 24 ∧ out.length = xs.length + W ∧ crcOfBits wd p s out = (0, 0) ∧ hasCrc wd p s out = true := by
  by_cases h0 : (crcOfBits wd p s xs).2 = 0
  · by_cases h3 : 8192 < (xs.length : Int) + wd
    · rw [ac_3 h0 h3] at h; cases h
    · rw [ac_0 h0 h3] at h
      obtain ⟨W, g, r, rfl, h1, h2, rfl, hg, rfl, hb, hv⟩ := cob_get h0
      rw [hv, Int.toNat_natCast] at h
      simp only [Prod.mk.injEq, and_true] at h
      have hbits := (isBits_iff.1 hb).2
      have hbl := bitsOf_bits (regOf g r xs) W
      have hlen : out.length = xs.length + W := by rw [← h, List.length_append, bitsOf_len]
      have hob : isBits out = true := by
        rw [isBits_iff]
        refine ⟨by omega, fun x hx => ?_⟩
        rw [← h] at hx
        rcases List.mem_append.1 hx with hx | hx
        · exact hbits x hx
        · exact hbl x hx
      have hz : fbs g r (bl out) = 0#W := by
        rw [← h, bl_append, fbs_append]
        have hn := numOf_bitsOf (regOf g r xs) W (by unfold regOf; omega) (by unfold regOf; exact reg_pow _)
        exact (fbs_zero_iff hg _ (bitsOf_len _ _) hbl).2 (by rw [hn]; rfl)
      have hreg : regOf g r out = 0 := by unfold regOf; rw [hz]; simp
      have hcode := crcCode_put (g := g) r h1 h2 hg
      refine ⟨W, rfl, h1, h2, hlen, ?_, ?_⟩
      · rw [cob_put r h1 h2 hg hob, hreg]
      · rw [hc_raw hcode hob (by omega), crcRaw_eq, hreg]; rfl
  · rw [ac_err h0] at h
    exact absurd (congrArg Prod.snd h) h0

end

section
open Go.RowKit

theorem crcTab_getD {W : Nat} (g : BitVec W) (v : Nat) (h : v < 256) : (crcTab (W : Int) (g.toNat : Int) 256).getD v 0 = tabOf g v := by
  rw [crcTab_eq]
  simp [List.getD, h]
theorem crcTab_len (wd p : Int) (k : Nat) : (crcTab wd p k).length = k := by unfold crcTab; rw [List.length_map, List.length_range]
/-- What a check number of bytes without an error means. -/
theorem bytes_round' {wd p s r0 : Int} {xs : List Int} (h : crcOfBytes wd p s xs = (r0, 0)) :
    isBytes xs = true ∧ isCrc wd p = true ∧ crcOfBits wd p s (xs.flatMap (bitsOf · 8)) = (r0, 0) ∧
    ∃ z, crcOfBytes wd p 0 xs = (z, 0) ∧ ∀ v : Nat, v < 256 → xs = [(v : Int)] → z = (crcTab wd p 256).getD v 0 := by
  by_cases hc : crcCode wd p s = 0
  · rcases hb : isBytes xs with _ | _
    · rw [coy_3 hc hb] at h; cases h
    · rw [coy_0 hc hb] at h
      obtain ⟨W, g, r, rfl, h1, h2, rfl, hg, rfl⟩ := crcCode_zero hc
      rw [crcRaw_eq] at h
      have hl := (isBytes_iff.1 hb).1
      have hbits : isBits (xs.flatMap (bitsOf · 8)) = true := isBits_iff.2 ⟨by rw [flat_len]; omega, flat_bits xs⟩
      refine ⟨rfl, isCrc_put h1 h2 hg, ?_, regOf g 0#W (xs.flatMap (bitsOf · 8)), ?_, fun v hv hx => ?_⟩
      · rw [cob_put r h1 h2 hg hbits]; exact h
      · have h0 := crcCode_put (g := g) (0#W) h1 h2 hg
        rw [show (((0#W).toNat : Nat) : Int) = 0 from by simp] at h0
        have e := crcRaw_eq g (0#W) (xs.flatMap (bitsOf · 8))
        rw [show (((0#W).toNat : Nat) : Int) = 0 from by simp] at e
        rw [coy_0 h0 hb, e]
      · rw [crcTab_getD g v hv, hx]
        unfold tabOf
        simp
  · rw [coy_code hc] at h
    exact absurd (congrArg Prod.snd h) hc
end
end Go.Proofs.Ytbdfnkhmnglpbaa
