/-
  Slices of the call's own beside a dice, two of them appended to in turn; FnCrcLinear's loop in plain words.
-/
import Derived.Test.YtadmpfmpmpdbeaaC2q
import Derived.Maps.AppendAt
namespace Go.Proofs.Ytadmpfmpmpdbeaa
open Go.RowKit

theorem Dice.grown {T d : Nat} {w w' : World} {g : Option Nat} (h : Dice T w d) (hb : w.grownBy w' g) (hg : ∀ k, g = some k → d < k) : Dice T w' d := by
  have hlt := h.lt
  obtain ⟨ao, n, cap, cs, a, s, hh, hr, r⟩ := h
  have hne : ∀ k, k ≤ d → some k ≠ g := fun k hk e => by have := hg k e.symm; omega
  exact ⟨ao, n, cap, cs, a, s, (hb.block d hlt (hne d (Nat.le_refl _))).trans hh,
    hr.keep fun b o h => World.cell?_of_block (a := ⟨b, o, none⟩) (hb.block b (by omega) (hne b (by omega))), r⟩
/-- Since w0 nothing old has changed; block d, laid since then, is a dice; every slice of L is the call's own, behind d; no two of them share a block. -/
structure HeldD (E T : Nat) (w0 w : World) (d : Nat) (L : List (Value × List Int)) : Prop where
  below : Below w0.heap.size w0 w
  lo : w0.heap.size ≤ d
  dice : Dice T w d
  own : ∀ q ∈ L, Own E w (d + 1) q.1 q.2
  apart : L.Pairwise fun q r => ∀ k, q.1.ownBlock = some k → r.1.ownBlock ≠ some k
section
variable {E T : Nat} {w0 w w' : World} {d : Nat} {L : List (Value × List Int)} {v v' : Value} {xs ys : List Int}
theorem HeldD.start (b : Below w0.heap.size w0 w) (hl : w0.heap.size ≤ d) (hs : Dice T w d) : HeldD E T w0 w d [] := ⟨b, hl, hs, (fun _ h => by cases h), List.Pairwise.nil⟩
theorem HeldD.still (h : HeldD E T w0 w d L) (b : Below w.heap.size w w') : HeldD E T w0 w' d L :=
  ⟨below_two h.below b, h.lo, h.dice.below b, fun q hq => (h.own q hq).below b, h.apart⟩
theorem HeldD.throw_ (h : HeldD E T w0 w d L) (hs : Dice T w' d) (g : w.grownBy w' (some d)) : HeldD E T w0 w' d L :=
  ⟨h.below.grown g h.below.size (fun k hk => by cases hk; exact h.lo), h.lo, hs, fun q hq => (h.own q hq).src g (by omega), h.apart⟩
theorem HeldD.make (h : HeldD E T w0 w d L) (o : Own E w' w.heap.size v xs) (b : Below w.heap.size w w') : HeldD E T w0 w' d ((v, xs) :: L) := by
  have h' := h.still b
  refine ⟨h'.below, h'.lo, h'.dice, fun q hq => ?_, List.Pairwise.cons (fun q hq k hk e => ?_) h.apart⟩
  · rcases List.mem_cons.1 hq with rfl | hq
    · exact o.more h.dice.lt
    · exact h'.own q hq
  · have h1 := (o.block k hk).1
    have h2 := ((h.own q hq).block k e).2
    omega
theorem HeldD.push (L1 : List (Value × List Int)) {L2 : List (Value × List Int)} (h : HeldD E T w0 w d (L1 ++ (v, xs) :: L2)) (o : Own E w' (d + 1) v' ys) (g : w.grownBy w' v.ownBlock) (hb : v'.ownBlock = v.ownBlock ∨ v'.ownBlock = some w.heap.size) : HeldD E T w0 w' d (L1 ++ (v', ys) :: L2) := by
  have ho := h.own
  have ha := h.apart
  have hk0 : ∀ k, v.ownBlock = some k → d < k := fun k hk => ((ho (v, xs) (by simp)).block k hk).1
  have hlo := h.lo
  refine ⟨h.below.grown g h.below.size (fun k hk => by have := hk0 k hk; omega), hlo, h.dice.grown g hk0, fun p hp => ?_, ?_⟩
  · rw [List.mem_append, List.mem_cons] at hp
    rw [List.pairwise_append, List.pairwise_cons] at ha
    rcases hp with hp | rfl | hp
    · refine (ho p (by simp [hp])).only g ?_
      cases hk : p.1.ownBlock with
      | none => exact .inl rfl
      | some k => exact .inr (fun e => ha.2.2 p hp (v, xs) (by simp) k hk e.symm)
    · exact o
    · refine (ho p (by simp [hp])).only g ?_
      cases hk : p.1.ownBlock with
      | none => exact .inl rfl
      | some k => exact .inr (fun e => ha.2.1.1 p hp k e.symm hk)
  · rw [List.pairwise_append, List.pairwise_cons] at ha ⊢
    refine ⟨ha.1, ⟨fun q hq k hk e => ?_, ha.2.1.2⟩, fun p hp q hq k hk => ?_⟩
    · rcases hb with hb | hb
      · exact ha.2.1.1 q hq k (hb ▸ hk) e
      · have h1 := ((ho q (by simp [hq])).block k e).2
        rw [hb] at hk
        cases hk
        omega
    · rcases List.mem_cons.1 hq with rfl | hq
      · intro e
        rcases hb with hb | hb
        · exact ha.2.2 p hp (v, xs) (by simp) k hk (hb ▸ e)
        · have h1 := ((ho p (by simp [hp])).block k hk).2
          rw [hb] at e
          cases e
          omega
      · exact ha.2.2 p hp q (by simp [hq]) k hk
theorem HeldD.get (h : HeldD E T w0 w d L) (i : Nat) (hi : L[i]? = some (v, xs)) : Own E w (d + 1) v xs := h.own (v, xs) (List.mem_of_getElem? hi)
theorem HeldD.rd {ao : Option Addr} {n cap : Nat} (h : HeldD E T w0 w d L) (i : Nat) (hi : L[i]? = some (.slice ao n cap, xs)) (_ : xs.length = n) : Rd w ao n xs := by
  obtain ⟨ao', cap', e, o, r⟩ := (h.get i hi).get
  cases e
  exact r
end
section
variable {P : Program} {E T : Nat} (w : World) {ops : Array Oper} {rest : List Oper} {o : Oper} {a : Act} {Q : Exit → Act → World → Prop}
/-- 'append(out, x)' of one number, with what it leaves of the block. -/
theorem append_push (hgd : o.guard = none) (s x : Operand)
    (ho : o.op = .call { callee := .builtin .append, args := #[s, x], argTypes := #[T, T] })
    (base : Nat) (ht : P.underlying T = some (.slice E)) (hi : Info64 P E)
    (v : Value) (xs : List Int) (hs : a.eval s = v) (hown : Own E w base v xs) (b : Nat) (y : Int) (c : Nat) (hx : a.eval x = .slice (some ⟨b, 0, none⟩) 1 c) (hc : w.cell? ⟨b, 0, none⟩ = some (.int .i64 y))
    (hlen : xs.length ≤ 4294967296) (hbase : base ≤ w.heap.size)
    (h : ∀ v' w', Own E w' base v' (xs ++ [y]) → w.grownBy w' v.ownBlock → (v'.ownBlock = v.ownBlock ∨ v'.ownBlock = some w.heap.size) → wpList P ops Q rest (a.put o.dst v') w') : wpList P ops Q (o :: rest) a w := by
  obtain ⟨i0, hi, hz0, hz1, hz2⟩ := info_parts hi
  refine wpList_append_own_at w hgd s x T ho base E i0 (.int .i64 0) 1 8 ht hi hz0 hz1 hz2 rfl (by decide) v xs.length _ hs hown ⟨b, 0, none⟩ 1 c [.int .i64 y] hx rfl ?_ ?_ (by unfold maxLen; omega) (by omega) hbase ?_
  · intro j u hj
    match j, hj with
    | 0, hj => simp at hj; subst hj; simpa [Addr.add] using hc
  · intro u hu; simp at hu; subst hu; rfl
  · intro v' w' h1 h2 _ h3
    refine h v' w' ?_ h2 h3
    unfold Own
    simpa using h1
theorem step_push {K : Act → World → Prop} {E' : Prop} (hgd : o.guard = none) (s x : Operand)
    (ho : o.op = .call { callee := .builtin .append, args := #[s, x], argTypes := #[T, T] })
    (base : Nat) (ht : P.underlying T = some (.slice E)) (hi : Info64 P E)
    (v : Value) (xs : List Int) (hs : a.eval s = v) (hown : Own E w base v xs) (b : Nat) (y : Int) (c : Nat) (hx : a.eval x = .slice (some ⟨b, 0, none⟩) 1 c) (hc : w.cell? ⟨b, 0, none⟩ = some (.int .i64 y))
    (hlen : xs.length ≤ 4294967296) (hbase : base ≤ w.heap.size)
    (h : ∀ v' w', Own E w' base v' (xs ++ [y]) → w.grownBy w' v.ownBlock → (v'.ownBlock = v.ownBlock ∨ v'.ownBlock = some w.heap.size) → K (a.put o.dst v') w') : if Region.wanted o (yielded ops a.tmps) = true then Oper.wp P o a w K Q else E' := by
  obtain ⟨i0, hi, hz0, hz1, hz2⟩ := info_parts hi
  refine step_append_lies w hgd s x T ho base E i0 (.int .i64 0) 1 8 ht hi hz0 hz1 hz2 rfl (by decide) v xs.length _ hs hown ⟨b, 0, none⟩ 1 c [.int .i64 y] hx rfl ?_ ?_ (by decide) (by unfold maxLen; omega) (by omega) hbase w.heap.size rfl ?_
  · intro j u hj
    match j, hj with
    | 0, hj => simp at hj; subst hj; simpa [Addr.add] using hc
  · intro u hu; simp at hu; subst hu; rfl
  · intro g cap w' h1 h2 h3 _
    refine h _ w' ?_ h2 ?_
    · unfold Own; simpa using h1
    · show some g = _ ∨ some g = _
      rcases h3 with h3 | h3
      · exact .inl h3.symm
      · exact .inr (by rw [h3])
end

/-- Two lists of noughts and ones, added bit by bit. -/
def xorL (xs ys : List Int) : List Int := List.zipWith (fun a e => bits .xor .i64 a e) xs ys
theorem xorL_len (xs ys : List Int) (h : xs.length = ys.length) : (xorL xs ys).length = ys.length := by unfold xorL; rw [List.length_zipWith]; omega
theorem xorL_snoc (xs ys : List Int) (h : xs.length = ys.length) (a e : Int) : xorL (xs ++ [a]) (ys ++ [e]) = xorL xs ys ++ [bits .xor .i64 a e] := by
  unfold xorL; rw [List.zipWith_append h]; rfl
theorem bit_xor (a e : Int) (ha : 0 ≤ a ∧ a ≤ 1) (he : 0 ≤ e ∧ e ≤ 1) : (0 ≤ bits .xor .i64 a e ∧ bits .xor .i64 a e ≤ 1) ∧ decide (bits .xor .i64 a e = 1) = (decide (a = 1) ^^ decide (e = 1)) := by
  have h1 : a = 0 ∨ a = 1 := by omega
  have h2 : e = 0 ∨ e = 1 := by omega
  rcases h1 with rfl | rfl <;> rcases h2 with rfl | rfl <;> decide
theorem xorL_bl : ∀ (xs ys : List Int), xs.length = ys.length → (∀ x ∈ xs, 0 ≤ x ∧ x ≤ 1) → (∀ y ∈ ys, 0 ≤ y ∧ y ≤ 1) → bl (xorL xs ys) = List.zipWith (· ^^ ·) (bl xs) (bl ys) ∧ ∀ z ∈ xorL xs ys, 0 ≤ z ∧ z ≤ 1
  | [], [], _, _, _ => ⟨rfl, fun _ h => by cases h⟩
  | x :: xs, y :: ys, h, hx, hy => by
    obtain ⟨h1, h2⟩ := xorL_bl xs ys (by simpa using h) (fun a ha => hx a (by simp [ha])) (fun a ha => hy a (by simp [ha]))
    obtain ⟨h3, h4⟩ := bit_xor x y (hx x (by simp)) (hy y (by simp))
    refine ⟨?_, fun z hz => ?_⟩
    · show decide (bits .xor .i64 x y = 1) :: bl (xorL xs ys) = _
      rw [h1, h4]; rfl
    · rcases List.mem_cons.1 hz with rfl | hz
      · exact h3
      · exact h2 z hz
  | [], _ :: _, h, _, _ => by simp at h
  | _ :: _, [], h, _, _ => by simp at h
/-- The exclusive or of two check numbers is the syndrome of the differences. -/
theorem linear_round {wd p r0 : Int} {xs : List Int} (h : crcOfBits wd p 0 xs = (r0, 0)) : ∃ W : Nat, wd = (W : Int) ∧ 3 ≤ W ∧ W ≤ 24 ∧ (∀ x ∈ xs, 0 ≤ x ∧ x ≤ 1) ∧
    ∀ (s : Int) (az : List Int), 0 ≤ s → s < 2 ^ W → az.length = xs.length → (∀ a ∈ az, 0 ≤ a ∧ a ≤ 1) → ∃ x y, crcOfBits wd p s az = (x, 0) ∧ crcOfBits wd p s (xorL az xs) = (y, 0) ∧ bits .xor .i64 x y = r0 := by
  obtain ⟨W, g, r, rfl, h1, h2, rfl, h3, hs0, hb, hv⟩ := cob_get (wd := wd) (p := p) (s := 0) (xs := xs) (by rw [h])
  rw [h] at hv
  have hv : r0 = regOf g r xs := hv
  have hr : r = 0#W := by apply BitVec.eq_of_toNat_eq; rw [show (0#W).toNat = 0 from by simp]; omega
  have hxs := (isBits_iff.1 hb).2
  refine ⟨W, rfl, h1, h2, hxs, fun s az h0 hlt hl ha => ?_⟩
  have e2 : ((2 ^ W : Nat) : Int) = (2 : Int) ^ W := by simp
  obtain ⟨q, rfl⟩ := Int.eq_ofNat_of_zero_le h0
  have hq : q < 2 ^ W := by omega
  have hqe : (q : Int) = ((BitVec.ofNat W q).toNat : Int) := by rw [BitVec.toNat_ofNat, Nat.mod_eq_of_lt hq]
  obtain ⟨hbl, hxb⟩ := xorL_bl az xs hl ha hxs
  have hln := xorL_len az xs hl
  have hn := (isBits_iff.1 hb).1
  have ea := cob_put (BitVec.ofNat W q) h1 h2 h3 (xs := az) (isBits_iff.2 ⟨by omega, ha⟩)
  have eb := cob_put (BitVec.ofNat W q) h1 h2 h3 (xs := xorL az xs) (isBits_iff.2 ⟨by omega, hxb⟩)
  rw [← hqe] at ea eb
  refine ⟨_, _, ea, eb, ?_⟩
  have hx := fbs_xor (g := g) (bl az) (bl xs) (BitVec.ofNat W q) (0#W) (by rw [bl_len, bl_len]; exact hl)
  rw [BitVec.xor_zero, ← hbl] at hx
  unfold regOf at hv ⊢
  rw [reg_xor h2, hx, ← BitVec.xor_assoc, BitVec.xor_self, BitVec.zero_xor, hv, hr]
end Go.Proofs.Ytadmpfmpmpdbeaa
