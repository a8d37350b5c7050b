/-
  Chapter 7: errors of a sealed frame: the plain function; slices.Grow and slices.Concat; areFrameErrors.
-/
import Derived.Test.YtdcalkobcdeclaaH1
import Derived.Deep.AppendLies
import Derived.Test.YtdcalkobcdeclaaThr
import Derived.Test.YtdcalkobcdeclaaFourD
import Derived.Lib.AppendZeros
import Derived.ArgAppend
namespace Go.Proofs.Ytdcalkobcdeclaa
open Go.RowKit

/-! ### the plain function -/
def frameErrs (es : List Int) : Bool := isBits es && (decide (32 ≤ es.length) && (decide (es.length % 8 = 0) && (es.getD 0 0 == 0 && es.getD 1 0 == 0)))
def missedL (kind t m r s k t' m' r' s' k' : Int) (es : List Int) : List Int := if kind = 0 then diffBits (stateBits t m r s k) (stateBits t' m' r' s' k') ++ es else es
def missed (kind t m r s k t' m' r' s' k' : Int) (es : List Int) : Bool × Int :=
  if isState t m r s k = false ∨ isState t' m' r' s' k' = false then (false, 1) else if kindOk kind = false then (false, 2) else if frameErrs es = false then (false, 3) else (regOf stdG 0#24 (missedL kind t m r s k t' m' r' s' k' es) == 0, 0)
section
variable {kind t m r s k t' m' r' s' k' : Int} {es : List Int}
theorem mi_A (h : isState t m r s k = false) : missed kind t m r s k t' m' r' s' k' es = (false, 1) := by unfold missed; rw [if_pos (.inl h)]
theorem mi_A2 (h : isState t' m' r' s' k' = false) : missed kind t m r s k t' m' r' s' k' es = (false, 1) := by unfold missed; rw [if_pos (.inr h)]
theorem mi_B (h1 : isState t m r s k = true) (h2 : isState t' m' r' s' k' = true) (h : kindOk kind = false) : missed kind t m r s k t' m' r' s' k' es = (false, 2) := by unfold missed; rw [if_neg (by simp [h1, h2]), if_pos h]
theorem mi_C (h1 : isState t m r s k = true) (h2 : isState t' m' r' s' k' = true) (h3 : kindOk kind = true) (h : frameErrs es = false) : missed kind t m r s k t' m' r' s' k' es = (false, 3) := by unfold missed; rw [if_neg (by simp [h1, h2]), if_neg (by simp [h3]), if_pos h]
theorem mi_K (h1 : isState t m r s k = true) (h2 : isState t' m' r' s' k' = true) (h3 : kindOk kind = true) (h : frameErrs es = true) : missed kind t m r s k t' m' r' s' k' es = (regOf stdG 0#24 (missedL kind t m r s k t' m' r' s' k' es) == 0, 0) := by unfold missed; rw [if_neg (by simp [h1, h2]), if_neg (by simp [h3]), if_neg (by simp [h])]
end
theorem fe_parts {es : List Int} (h : frameErrs es = true) : isBits es = true ∧ 32 ≤ es.length ∧ es.length % 8 = 0 ∧ es.getD 0 0 = 0 ∧ es.getD 1 0 = 0 := by
  unfold frameErrs at h
  simp only [Bool.and_eq_true, decide_eq_true_eq, beq_iff_eq] at h
  exact h
theorem xor_diff : ∀ xs ys : List Int, xs.length = ys.length → (∀ x ∈ xs, 0 ≤ x ∧ x ≤ 1) → (∀ y ∈ ys, 0 ≤ y ∧ y ≤ 1) → xorL xs ys = diffBits xs ys
  | [], [], _, _, _ => rfl
  | x :: xs, y :: ys, h, hx, hy => by
    have h1 := hx x (by simp)
    have h2 := hy y (by simp)
    have ih := xor_diff xs ys (by simpa using h) (fun a ha => hx a (by simp [ha])) (fun a ha => hy a (by simp [ha]))
    show bits .xor .i64 x y :: xorL xs ys = (if x = y then 0 else 1) :: diffBits xs ys
    rw [ih]
    congr 1
    rcases (show x = 0 ∨ x = 1 from by omega) with rfl | rfl <;> rcases (show y = 0 ∨ y = 1 from by omega) with rfl | rfl <;> decide
  | [], _ :: _, h, _, _ => by simp at h
  | _ :: _, [], h, _, _ => by simp at h
theorem sum_states (t m r s k t' m' r' s' k' : Int) : sumErrors (stateBits t m r s k) (stateBits t' m' r' s' k') = (diffBits (stateBits t m r s k) (stateBits t' m' r' s' k'), 0) := by
  rw [se_0 (isBits_state _ _ _ _ _) (isBits_state _ _ _ _ _) (by rw [stateBits_len, stateBits_len]), xor_diff _ _ (by rw [stateBits_len, stateBits_len]) (stateBits_bits _ _ _ _ _) (stateBits_bits _ _ _ _ _)]
theorem std_syndrome {es : List Int} (h : isBits es = true) : crcOfBits 24 6122955 0 es = (regOf stdG 0#24 es, 0) := by
  have hc : crcCode 24 6122955 0 = 0 := by decide
  rw [cob_0 hc h]
  have h2 := crcRaw_zero stdG es
  rw [std_nat] at h2
  exact Prod.ext h2 rfl
theorem reg_join (xs ys : List Int) : regOf stdG 0#24 (xs ++ ys) = regOf stdG (fbs stdG 0#24 (bl xs)) ys := by unfold regOf; rw [bl_append, fbs_append]

/-! ### slices -/
section
variable {P : Program} {E T : Nat} (w : World) {ops : Array Oper} {o : Oper} {a : Act} {Q : Exit → Act → World → Prop}
/-- 'append(out, x...)' where out has no room, at a step of a region that draws its order. -/
theorem op_full {K : Act → World → Prop} (s x : Operand)
    (ho : o.op = .call { callee := .builtin .append, args := #[s, x], argTypes := #[T, T] })
    (ht : P.underlying T = some (.slice E)) (hi : Info64 P E)
    (b n : Nat) (xs : List Int) (hs : a.eval s = .slice (some ⟨b, 0, none⟩) n n) (hrx : Rd w (some ⟨b, 0, none⟩) n xs) (ad : Addr) (m c : Nat) (ys : List Int) (hx : a.eval x = .slice (some ad) m c) (hr : Rd w (some ad) m ys) (hm : 0 < m)
    (hlen : n + m ≤ 4294967296)
    (h : ∀ v' w', Own E w' w.heap.size v' (xs ++ ys) → Below w.heap.size w w' → K (a.put o.dst v') w') : Oper.wp P o a w K Q := by
  obtain ⟨i0, hi, hz0, hz1, hz2⟩ := info_parts hi
  have cellsOf : ∀ (ad : Addr) (n : Nat) (xs : List Int), Rd w (some ad) n xs → ∀ j u, (xs.map (Value.int .i64))[j]? = some u → w.cell? (ad.add j) = some u := by
    intro ad n xs hr j u hu
    rw [List.getElem?_map, Option.map_eq_some_iff] at hu
    obtain ⟨y, hy, rfl⟩ := hu
    have hj : j < n := by have := (List.getElem?_eq_some_iff.1 hy).1; have := hr.len; omega
    obtain ⟨b, off, e, hc⟩ := hr.here (by omega)
    cases e
    rw [Addr.add_lit, hc j hj]
    simp [List.getD, hy]
  obtain ⟨v', w', hrun, r1, r2⟩ := run_append_arg_grows (P := P) w T o.type E i0 (.int .i64 0) 1 8 ht hi hz0 hz1 hz2 rfl (by decide) ⟨b, 0, none⟩ n n (xs.map (Value.int .i64)) (by rw [List.length_map, hrx.len, Nat.mul_one]) (cellsOf _ _ _ hrx) ad m c (ys.map (Value.int .i64)) (by rw [List.length_map, hr.len, Nat.mul_one]) (cellsOf _ _ _ hr) (by omega) (by unfold maxLen; omega) (by omega)
  unfold Oper.wp
  simp [execOp, ho, resolve, invoke, builtin, hs, hx, hrun, Result.andThen]
  refine h v' w' ?_ ((Below.refl _ _).grown r2 (Nat.le_refl _) (fun k hk => by cases hk))
  unfold Own
  rw [List.length_append, hrx.len, hr.len, List.map_append]
  exact r1
/-- 'make([]int64, n)'. -/
theorem op_make {K : Act → World → Prop} (l c : Operand) (hop : o.op = Op.makeSlice T l c) (ht : P.underlying T = some (.slice E)) (hi : Info64 P E)
    (kl kc : IntKind) (L C : Int) (n : Nat) (hl : a.eval l = .int kl L) (hc : a.eval c = .int kc C) (hL : L = (n : Int)) (hC : C = (n : Int)) (hm : n ≤ 4294967296)
    (hK : ∀ w', Own E w' w.heap.size (.slice (some ⟨w.heap.size, 0, none⟩) n n) (List.replicate n 0) → Below w.heap.size w w' → K (a.put o.dst (.slice (some ⟨w.heap.size, 0, none⟩) n n)) w') :
    Oper.wp P o a w K Q := by
  obtain ⟨i0, hi, hz0, hz1, hz2⟩ := info_parts hi
  subst hL
  subst hC
  have hrun := run_make (P := P) w T E i0 (.int .i64 0) ht hi hz0 kl kc (n : Int) (n : Int) (by omega) (by omega) (by rw [hz2]; omega) (by omega)
  simp only [Int.toNat_natCast] at hrun
  unfold Oper.wp
  simp [execOp, hop, hl, hc, hrun, Result.andThen]
  refine hK _ ?_ ((Below.refl _ _).alloc (Nat.le_refl _) _)
  refine ⟨by simp, .inr ⟨w.heap.size, n, _, ?_, Nat.le_refl _, heap_alloc_new w _, by simp, by unfold maxLen; omega, by rw [size_madeCells, hz1], ?_⟩⟩
  · simp
  · rw [hz1, show (Value.int .i64 0).cells = #[Value.int .i64 0] from rfl, toList_madeCells_one, List.length_replicate, Nat.mul_one, List.take_replicate, Nat.min_self, List.map_replicate]
/-- The same at a step of a region that draws its order. -/
theorem step_make {K : Act → World → Prop} {E' : Prop} (hg : o.guard = none) (l c : Operand) (hop : o.op = Op.makeSlice T l c) (ht : P.underlying T = some (.slice E)) (hi : Info64 P E)
    (kl kc : IntKind) (L C : Int) (n : Nat) (hl : a.eval l = .int kl L) (hc : a.eval c = .int kc C) (hL : L = (n : Int)) (hC : C = (n : Int)) (hm : n ≤ 4294967296)
    (hK : ∀ w', Own E w' w.heap.size (.slice (some ⟨w.heap.size, 0, none⟩) n n) (List.replicate n 0) → Below w.heap.size w w' → K (a.put o.dst (.slice (some ⟨w.heap.size, 0, none⟩) n n)) w') :
    if Region.wanted o (yielded ops a.tmps) = true then Oper.wp P o a w K Q else E' := by
  have hw : Region.wanted o (yielded ops a.tmps) = true := by simp [Region.wanted, hg]
  rw [if_pos hw]
  exact op_make w l c hop ht hi kl kc L C n hl hc hL hC hm hK
/-- 'append(out, x...)' of a whole slice. -/
theorem op_list {K : Act → World → Prop} (s x : Operand)
    (ho : o.op = .call { callee := .builtin .append, args := #[s, x], argTypes := #[T, T] })
    (base : Nat) (ht : P.underlying T = some (.slice E)) (hi : Info64 P E)
    (v : Value) (xs : List Int) (hs : a.eval s = v) (hown : Own E w base v xs) (ad : Addr) (n c : Nat) (ys : List Int) (hx : a.eval x = .slice (some ad) n c) (hr : Rd w (some ad) n ys) (hn : 0 < n)
    (hlen : xs.length + n ≤ 4294967296) (hbase : base ≤ w.heap.size)
    (h : ∀ v' w', Own E w' base v' (xs ++ ys) → w.grownBy w' v.ownBlock → K (a.put o.dst v') w') : Oper.wp P o a w K Q := by
  obtain ⟨i0, hi, hz0, hz1, hz2⟩ := info_parts hi
  have hl := hr.len
  refine wp_append_lies w s x T ho base E i0 (.int .i64 0) 1 8 ht hi hz0 hz1 hz2 rfl (by decide) v xs.length _ hs hown ad n c (ys.map (Value.int .i64)) hx (by rw [List.length_map, hl, Nat.mul_one]) ?_ (ints_oneCell _ _) hn (by unfold maxLen; omega) (by omega) hbase w.heap.size rfl ?_
  · intro j u hu
    rw [List.getElem?_map, Option.map_eq_some_iff] at hu
    obtain ⟨y, hy, rfl⟩ := hu
    have hj : j < n := by have := (List.getElem?_eq_some_iff.1 hy).1; omega
    obtain ⟨b, off, e, hc⟩ := hr.here (by omega)
    cases e
    rw [Addr.add_lit, hc j hj]
    simp [List.getD, hy]
  · intro g cap w' h1 h2 h3 _
    refine h _ w' ?_ h2
    unfold Own
    rw [List.length_append, hl, List.map_append]
    exact h1
end
theorem info64_int : (Try.prog.underlying 3) = some (.int .i64) := by kernel_rfl
set_option maxRecDepth 100000 in
/-- slices.Grow of nil: an empty slice of the call's own. -/
theorem growNil_any (n : Nat) (w : World) (h0 : 0 < n) (hn : n ≤ 20000) : Calls Try.prog 125 #[.slice none 0 0, .int .i64 n] w (Makes 2 w []) := by
  obtain ⟨i0, hi, hz0, hz1, hz2⟩ := info_parts (P := Try.prog) (e := 2) info64
  have hrun := fun ty => Lib.run_append_nil_zeros (P := Try.prog) w 34 3 ty 2 i0 (.int .i64 0) .i64 .i64 Try.underlying34 info64_int hi hz0 n h0 (by rw [hz1]; decide) (by omega) (by rw [hz2]; omega)
  have hge := grownCap_ge w n 0 2
  have hcm : grownCap w n 0 2 ≤ maxLen := grownCap_le_maxLen w n 0 2 (by unfold maxLen; omega)
  generalize grownCap w n 0 2 = gc at hrun hge hcm
  have hcell : ((Value.int .i64 0).cells) = #[Value.int .i64 0] := rfl
  obtain ⟨cur, hcur⟩ : ∃ cur, Builtin.zeroCells (Value.int .i64 0).cells n ++ Builtin.zeroCells (Value.int .i64 0).cells (gc - n) = cur := ⟨_, rfl⟩
  have hsz : cur.size = gc := by rw [← hcur, Array.size_append, size_zeroCells, size_zeroCells, hcell]; simp; omega
  rw [hcur] at hrun
  have hRUN := Lib.hid hrun; clear hrun hcur hcell
  have hk0 : ¬ ((n : Int) < 0) := by omega
  have hk1 : (0 : Int) < (n : Int) := by omega
  have hgc : (0 : Int) ≤ (gc : Int) := by omega
  have hbl : Below w.heap.size w (w.drew.alloc (.cells cur 2)) := ((Below.refl _ _).drew).alloc (Nat.le_refl _) _
  have hown : Own 2 (w.drew.alloc (.cells cur 2)) w.heap.size (.slice (some ⟨w.heap.size, 0, none⟩) 0 gc) [] :=
    ⟨by simp, .inr ⟨w.heap.size, gc, cur, by simp, Nat.le_refl _, heap_alloc_new w.drew _, by simp, hcm, by rw [hsz, Nat.mul_one], by simp⟩⟩
  have HO := Lib.hid hown; have HBL := Lib.hid hbl; clear hown hbl
  go_enter Try.func125, Try.ntmps125
  go_wp2_with (at_builtin; refine Lib.wpList_append_run w rfl (.tmp 20) (.tmp 21) 34 3 rfl (.slice none 0 0) (.int .i64 n) rfl rfl _ _ (hRUN.out _) ?_)
  go_ret
  exact ⟨_, rfl, HO.out, HBL.out⟩
end Go.Proofs.Ytdcalkobcdeclaa
