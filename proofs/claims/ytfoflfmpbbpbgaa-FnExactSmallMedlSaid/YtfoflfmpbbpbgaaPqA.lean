/-
  Contracts of the program's, the model's and the laws' functions, and plain mathematics, on which a proof of this claim stands (part A).
-/
import Derived.WalkKit
import Derived.Lib.Hide
import Derived.Deep.Draws
import Derived.Laws.AppendOwnNone
import Derived.Laws.CopyOwn
import Derived.Laws.BytesArg
import Derived.Laws.Rows
import Derived.Laws.Tables
import Derived.Test.YtfoflfmpbbpbgaaRows
import Derived.BigQuiet
import Derived.BigRegion
import Derived.Lib.SmallJoins
import Derived.ChangeArms
import Derived.Deep.QuietTactic
import Derived.Laws.StructEq
import Derived.Deep.RegionHeld3
import Derived.Deep.DeepCutAuto
import Derived.Deep.Cut
import Derived.Deep.Slices
import Derived.ChangeSlices
import Derived.Recover
import Derived.Defers
import Derived.Laws.EntriesVeiled
import Derived.Lib.AppendIntMem
import Derived.Lib.ItoaLen
import Derived.Deep.RegionWith
import Derived.Handy
namespace Go.Proofs.Ytfoflfmpbbpbgaa
section
section
open Go.RowKit
structure Rd (w : World) (ao : Option Addr) (n : Nat) (xs : List Int) : Prop where
  len : xs.length = n
  here : 0 < n → ∃ b off, ao = some ⟨b, off, none⟩ ∧ ∀ i, i < n → w.cell? ⟨b, off + i, none⟩ = some (.int .i64 (xs.getD i 0))
def Own (E : Nat) (w : World) (base : Nat) (v : Value) (xs : List Int) : Prop := w.ownsRow base E 1 v xs.length (xs.map (Value.int .i64))
section
variable {w w' : World} {E base n : Nat} {ao : Option Addr} {v : Value} {xs : List Int}
theorem Rd.nil_ : Rd w ao 0 [] := ⟨rfl, fun h => absurd h (by omega)⟩
theorem Rd.keep (h : Rd w ao n xs) (hk : ∀ b o, b < w.heap.size → w'.cell? ⟨b, o, none⟩ = w.cell? ⟨b, o, none⟩) : Rd w' ao n xs :=
  ⟨h.len, fun hn => by
    obtain ⟨b, off, e, hc⟩ := h.here hn
    exact ⟨b, off, e, fun i hi => (hk _ _ (World.block_lt_of_cell? w _ (hc i hi))).trans (hc i hi)⟩⟩
theorem Rd.below (h : Rd w ao n xs) (hb : Below w.heap.size w w') : Rd w' ao n xs := h.keep fun b o hlt => hb.cell (p := ⟨b, o, none⟩) hlt
theorem Rd.slice (h : Rd w ao n xs) {a k : Nat} (hak : a + k ≤ n) : Rd w (Option.map (fun x => x.add a) ao) k ((xs.drop a).take k) := by
  have hl := h.len
  refine ⟨by rw [List.length_take, List.length_drop]; omega, fun hk => ?_⟩
  obtain ⟨b, off, rfl, hc⟩ := h.here (by omega)
  refine ⟨b, off + a, by simp [Addr.add_lit], fun i hi => ?_⟩
  rw [Nat.add_assoc, hc (a + i) (by omega)]
  simp [List.getD, hi, List.getElem?_drop]
theorem Rd.block (h : Rd w ao n xs) (hn : 0 < n) : ∃ b off, ao = some ⟨b, off, none⟩ ∧ b < w.heap.size := by
  obtain ⟨b, off, e, hc⟩ := h.here hn
  exact ⟨b, off, e, World.block_lt_of_cell? w _ (hc 0 hn)⟩
theorem Own.below (h : Own E w base v xs) (hb : Below w.heap.size w w') : Own E w' base v xs := by
  obtain ⟨h1, h2⟩ := h
  refine ⟨h1, ?_⟩
  rcases h2 with h2 | ⟨g, cap, cur, e, hg, hh, r⟩
  · exact .inl h2
  · exact .inr ⟨g, cap, cur, e, hg, by rw [hb.block g (Array.getElem?_eq_some_iff.1 hh).1]; exact hh, r⟩
theorem Own.form (h : Own E w base v xs) : ∃ ao cap, v = .slice ao xs.length cap ∧ Rd w ao xs.length xs ∧ xs.length ≤ cap ∧ cap ≤ maxLen ∧ (v = .slice none 0 0 ∨ ∃ g, ao = some ⟨g, 0, none⟩ ∧ base ≤ g ∧ g < w.heap.size) := by
  have h0 := h
  obtain ⟨h1, h2⟩ := h
  rcases h2 with ⟨rfl, h2⟩ | ⟨g, cap, cur, rfl, hg, hh, hn, hcap, hsz, htake⟩
  · have : xs = [] := List.length_eq_zero_iff.1 h2
    subst this
    exact ⟨none, 0, rfl, Rd.nil_, Nat.le_refl _, by unfold maxLen; omega, .inl rfl⟩
  · refine ⟨_, cap, rfl, ⟨rfl, fun _ => ⟨g, 0, rfl, fun i hi => ?_⟩⟩, hn, hcap, .inr ⟨g, rfl, hg, (Array.getElem?_eq_some_iff.1 hh).1⟩⟩
    unfold Own at h0
    rw [Nat.zero_add, World.ownsRow.cellAt h0 i (by omega)]
    simp [List.getD, List.getElem?_eq_getElem hi]
theorem Own.cap {cap : Nat} (h : Own E w base (.slice ao n cap) xs) : n ≤ cap ∧ cap ≤ 9223372036854775807 := by
  obtain ⟨ao', cap', e, -, h1, h2, -⟩ := h.form
  cases e
  unfold maxLen at h2
  exact ⟨h1, by omega⟩
theorem Own.nil_ : Own E w base (.slice none 0 0) [] := World.ownsRow_nil _ _ _ _
theorem Own.get (h : Own E w base v xs) : ∃ ao cap, v = .slice ao xs.length cap ∧ Own E w base (.slice ao xs.length cap) xs ∧ Rd w ao xs.length xs := by
  obtain ⟨ao, cap, rfl, r, -, -, -⟩ := h.form
  exact ⟨ao, cap, rfl, h, r⟩
theorem below_two {a : World} (h : Below a.heap.size a w) (k : Below w.heap.size w w') : Below a.heap.size a w' := h.trans (k.mono h.size)
theorem Rd.only {g : Option Nat} (h : Rd w ao n xs) (ho : w.grownBy w' g) (hg : ∀ b off, ao = some ⟨b, off, none⟩ → g ≠ some b) : Rd w' ao n xs :=
  ⟨h.len, fun hn => by
    obtain ⟨b, off, e, hc⟩ := h.here hn
    exact ⟨b, off, e, fun i hi => ho.cell (hc i hi) (fun h => hg b off e h.symm)⟩⟩
theorem Own.only {g : Option Nat} (h : Own E w base v xs) (ho : w.grownBy w' g) (hg : v.ownBlock = none ∨ v.ownBlock ≠ g) : Own E w' base v xs := World.ownsRow.kept h ho hg
theorem Own.block (h : Own E w base v xs) : ∀ k, v.ownBlock = some k → base ≤ k ∧ k < w.heap.size := World.ownsRow.lt h
theorem below_drewN' {B : Nat} {a : World} (h : Below B a w) (k : Nat) : Below B a (w.drewN k) := ⟨h.os, h.tape, h.output, h.size, h.block⟩
end
theorem grown_trans {a b c : World} {row : Option Nat} (h : a.grownBy b row) (k : b.grownBy c row) : a.grownBy c row :=
  ⟨k.os.trans h.os, k.tape.trans h.tape, k.output.trans h.output, Nat.le_trans h.size k.size, fun i hi hne => (k.block i (Nat.lt_of_lt_of_le hi h.size) hne).trans (h.block i hi hne)⟩
theorem take_succ' (zs : List Int) (k : Nat) (hk : k < zs.length) : zs.take (k + 1) = zs.take k ++ [zs.getD k 0] := by
  rw [List.take_add_one, List.getElem?_eq_getElem hk]; simp [List.getD, List.getElem?_eq_getElem hk]
theorem ret_int {k : IntKind} {a b : Int} (h : a = b) : Ending.returned (.int k a) = .returned (.int k b) := by rw [h]
theorem ret_bool {a b : Bool} (h : a = b) : Ending.returned (.bool a) = .returned (.bool b) := by rw [h]
end
section
def marks (q : Int) : Nat → List Int
  | 0 => []
  | n + 1 => q :: marks (q + 1) n
theorem marks_len (q : Int) (n : Nat) : (marks q n).length = n := by
  induction n generalizing q with
  | zero => rfl
  | succ n ih => simp [marks, ih]
theorem marks_getD (q : Int) (n i : Nat) (h : i < n) : (marks q n).getD i 0 = q + i := by
  induction n generalizing q i with
  | zero => omega
  | succ n ih =>
    cases i with
    | zero => simp [marks]
    | succ i => simp only [marks, List.getD_cons_succ]; rw [ih (q + 1) i (by omega)]; omega
theorem marks_succ (q : Int) (n : Nat) : marks q (n + 1) = marks q n ++ [q + n] := by
  induction n generalizing q with
  | zero => simp [marks]
  | succ n ih => rw [marks, ih (q + 1)]; simp only [marks, List.cons_append, List.cons.injEq, true_and]; congr 2; omega
def markTo (q : Int) (xs : List Int) (k : Nat) : List Int := marks q k ++ xs.drop k
theorem markTo_len (q : Int) (xs : List Int) (k : Nat) (hk : k ≤ xs.length) : (markTo q xs k).length = xs.length := by
  unfold markTo; rw [List.length_append, marks_len, List.length_drop]; omega
theorem markTo_zero (q : Int) (xs : List Int) : markTo q xs 0 = xs := by simp [markTo, marks]
theorem markTo_all (q : Int) (xs : List Int) : markTo q xs xs.length = marks q xs.length := by simp [markTo]
theorem markTo_succ (q : Int) (xs : List Int) (k : Nat) (hk : k < xs.length) : (markTo q xs k).set k (q + k) = markTo q xs (k + 1) := by
  unfold markTo
  rw [List.set_append_right _ _ (by rw [marks_len]; exact Nat.le_refl _), marks_len, Nat.sub_self, marks_succ, List.drop_eq_getElem_cons hk, List.set_cons_zero]
  simp
theorem list_eq_of_take {xs ys : List Int} {n : Nat} (hx : xs.length = n) (hy : ys.length = n) (h : xs.take n = ys.take n) : xs = ys := by
  rwa [List.take_of_length_le (by omega), List.take_of_length_le (by omega)] at h
theorem ne_of_getD {xs ys : List Int} {k : Nat} (h : xs.getD k 0 ≠ ys.getD k 0) : decide (xs = ys) = false := by
  rw [decide_eq_false_iff_not]; intro e; exact h (by rw [e])
theorem ne_of_len {xs ys : List Int} (h : xs.length ≠ ys.length) : decide (xs = ys) = false := by
  rw [decide_eq_false_iff_not]; intro e; exact h (by rw [e])
theorem take_eq_succ {xs ys : List Int} {k : Nat} (hx : k < xs.length) (hy : k < ys.length) (h : xs.take k = ys.take k) (he : xs.getD k 0 = ys.getD k 0) : xs.take (k + 1) = ys.take (k + 1) := by
  rw [take_succ' xs k hx, take_succ' ys k hy, h, he]
theorem map_set (xs : List Int) (k : Nat) (v : Int) : (xs.map (Value.int .i64)).set k (.int .i64 v) = (xs.set k v).map (Value.int .i64) := (List.map_set).symm
end
section
open Go.RowKit
section
variable {E : Nat} {w0 w w' : World} {L : List (Value × List Int)} {v : Value} {xs : List Int}
end
end
section
open Go.RowKit
section
variable {P : Program} {E T : Nat} (w : World) {ops : Array Oper} {rest : List Oper} {o : Oper} {a : Act} {Q : Exit → Act → World → Prop}
end
end
section
open Go.RowKit
section
variable {k : IntKind} {E base : Nat} {w w' : World} {v : Value} {xs : List Int}
end
section
variable {P : Program} {E T : Nat} (w : World) {ops : Array Oper} {rest : List Oper} {o : Oper} {a : Act} {Q : Exit → Act → World → Prop}
end
end
section
end
section
end
section
def prev (ids : List Int) (k : Nat) : Int := if k = 0 then -1 else ids.getD (k - 1) 0
def stepOk (n : Int) (ids : List Int) (i : Nat) : Prop := prev ids i < ids.getD i 0 ∧ ids.getD i 0 < n
instance (n : Int) (ids : List Int) (i : Nat) : Decidable (stepOk n ids i) := by unfold stepOk; infer_instance
def rises (n : Int) (ids : List Int) : Bool := decide (∀ i, i < ids.length → stepOk n ids i)
end
end

section
section
def inRange (lo hi x : Int) : Bool := decide (lo ≤ x) && decide (x ≤ hi)
end
section
end
end

section
def kindOk (a : Int) : Bool := inRange 0 3 a
def hasState (a : Int) : Bool := kindOk a && decide (a ≠ 0)
def hasData (a : Int) : Bool := decide (a = 0 ∨ a = 2)
def sizeOk (a n : Int) : Bool := if a = 0 then inRange 0 32 n else if a = 2 then inRange 1 32 n else decide (n = 0)
def bodySize (a n : Int) : Int × Int :=
  if kindOk a = false then (0, 1) else if sizeOk a n = false then (0, 2) else (1 + (if hasState a = true then 8 else 0) + (if hasData a = true then 1 + n else 0), 0)
end

section
section
open Go.RowKit
theorem eq_any (ao bo : Option Addr) (n m c d : Nat) (xs ys : List Int) (w : World) (hx : Rd w ao n xs) (hy : Rd w bo m ys) (hn : n ≤ 9223372036854775807) (hm : m ≤ 9223372036854775807) :
    Calls Try.prog 24 #[.slice ao n c, .slice bo m d] w fun e w' => e = .returned (.bool (decide (xs = ys))) ∧ ∃ q, w' = w.drewN q := by
  obtain ⟨hxl, hxa⟩ := hx
  obtain ⟨hyl, hya⟩ := hy
  by_cases hnm : n = m
  · subst hnm
    have XL := Lib.hid hxl; clear hxl
    have XA := Lib.hid hxa; clear hxa
    have YL := Lib.hid hyl; clear hyl
    have YA := Lib.hid hya; clear hya
    have hne : ((n : Int) != (n : Int)) = false := by simp
    go_enter Try.func24, Try.ntmps24
    go_wp2
    clear hne
    go_loopw [5] (fun i wr => ∃ k : Nat, k ≤ n ∧ i = .int .i64 k ∧ Hid (xs.take k = ys.take k) ∧ ∃ q, wr = w.drewN q) (fun i _ => n - (intOf i).toNat)
    case atStart => exact ⟨0, Nat.zero_le _, rfl, rfl, 0, rfl⟩
    case round =>
      obtain ⟨k, hk, rfl, heq, q, rfl⟩ := hrel
      by_cases hlt : k < n
      · obtain ⟨b, off, rfl, hc⟩ := XA.out (by omega)
        obtain ⟨b', off', rfl, hc'⟩ := YA.out (by omega)
        have hck : w.cell? ⟨b, off + k, none⟩ = some (.int .i64 (xs.getD k 0)) := hc k hlt
        have hck' : w.cell? ⟨b', off' + k, none⟩ = some (.int .i64 (ys.getD k 0)) := hc' k hlt
        clear hc hc' XA YA
        obtain ⟨x, hx⟩ : ∃ x, x = xs.getD k 0 := ⟨_, rfl⟩
        obtain ⟨y, hy⟩ : ∃ y, y = ys.getD k 0 := ⟨_, rfl⟩
        rw [← hx] at hck
        rw [← hy] at hck'
        have HX := Lib.hid hx; clear hx
        have HY := Lib.hid hy; clear hy
        by_cases hxy : x = y
        · have hd : (x != y) = false := by simp [hxy]
          have HXY := Lib.hid hxy; clear hxy
          go_wp2
          go_quiet (fail)
          go_wp2
          go_roundw
          case rel => exact ⟨k + 1, by omega, by go_num, take_eq_succ (by rw [XL.out]; exact hlt) (by rw [YL.out]; exact hlt) heq.out (by rw [← HX.out, ← HY.out]; exact HXY.out), _, rfl⟩
          case measure => simp [intOf]; omega
        · have hd : (x != y) = true := by simp [hxy]
          have HXY := Lib.hid hxy; clear hxy
          go_wp2
          go_quiet (fail)
          go_wp2
          go_ret
          exact ⟨ret_bool (ne_of_getD (k := k) (by rw [← HX.out, ← HY.out]; exact HXY.out)).symm, _, World.drewN_drewN _ _ _⟩
      · have hkn : k = n := by omega
        subst hkn
        go_wp2
        go_ret
        exact ⟨ret_bool (decide_eq_true (list_eq_of_take XL.out YL.out heq.out)).symm, _, rfl⟩
  · have hne : ((n : Int) != (m : Int)) = true := by simp; omega
    have hf : decide (xs = ys) = false := ne_of_len (by rw [hxl, hyl]; exact hnm)
    rw [hf]
    clear hxl hyl hxa hya hf hnm
    go_enter Try.func24, Try.ntmps24
    go_wp2
    go_ret
    exact ⟨rfl, 0, rfl⟩
theorem eq_yes (ao bo : Option Addr) (n m c d : Nat) (xs : List Int) (w : World) (hx : Rd w ao n xs) (hy : Rd w bo m xs) (hn : n ≤ 9223372036854775807) :
    Calls Try.prog 24 #[.slice ao n c, .slice bo m d] w fun e w' => e = .returned (.bool true) ∧ Below w.heap.size w w' := by
  have hm : m ≤ 9223372036854775807 := by have := hx.len; have := hy.len; omega
  refine (eq_any ao bo n m c d xs xs w hx hy hn hm).mono ?_
  rintro e w' ⟨he, q, rfl⟩
  exact ⟨by rw [he]; simp, below_drewN' (Below.refl _ _) q⟩
theorem mark_any (g n cap base : Nat) (xs : List Int) (q : Int) (w : World) (hl : xs.length = n) (ho : Own 2 w base (.slice (some ⟨g, 0, none⟩) n cap) xs) (hn : n ≤ 4294967296) (hq0 : 0 ≤ q) (hq1 : q ≤ 4294967296) :
    Calls Try.prog 22 #[.slice (some ⟨g, 0, none⟩) n cap, .int .i64 q] w fun e w' => e = .returned (.int .i64 (q + n)) ∧ Own 2 w' base (.slice (some ⟨g, 0, none⟩) n cap) (marks q n) ∧ w.grownBy w' (some g) := by
  have ho1 : w.ownsRow base 2 1 (.slice (some ⟨g, 0, none⟩) n cap) n ((markTo q xs 0).map (Value.int .i64)) := by
    rw [markTo_zero, ← hl]; unfold Own at ho; rw [← hl] at ho; exact ho
  have HL := Lib.hid hl; clear hl ho
  have HO1 := Lib.hid ho1; clear ho1
  go_enter Try.func22, Try.ntmps22
  go_wp2
  go_loopw [1, 5] (fun v i wr => ∃ k : Nat, k ≤ n ∧ i = .int .i64 k ∧ v = .int .i64 (q + k) ∧ wr.ownsRow base 2 1 (.slice (some ⟨g, 0, none⟩) n cap) n ((markTo q xs k).map (Value.int .i64)) ∧ w.grownBy wr (some g)) (fun _ i _ => n - (intOf i).toNat)
  case atStart => exact ⟨0, Nat.zero_le _, rfl, by simp, HO1.out, World.grownBy.refl _ _⟩
  case round =>
    obtain ⟨k, hk, rfl, rfl, hown, hgr⟩ := hrel
    by_cases hlt : k < n
    · have hkx : k < xs.length := by rw [HL.out]; exact hlt
      have hdst : wr.cell? ⟨g, k, none⟩ = some (.int .i64 ((markTo q xs k).getD k 0)) := by
        have hl : k < (markTo q xs k).length := by rw [markTo_len q xs k (by omega)]; exact hkx
        rw [World.ownsRow.cellAt hown k (by omega)]
        simp [List.getD, List.getElem?_eq_getElem hl]
      have hfz := World.ownsRow.frozenAt hown k
      obtain ⟨hst, hgr'⟩ := World.ownsRow.stored hown k (.int .i64 (q + k))
      rw [map_set, markTo_succ q xs k hkx] at hst
      have hg2 : w.grownBy (wr.setCell ⟨g, k, none⟩ (.int .i64 (q + k))) (some g) := grown_trans hgr hgr'
      obtain ⟨y, hy⟩ : ∃ y, y = (markTo q xs k).getD k 0 := ⟨_, rfl⟩
      rw [← hy] at hdst
      clear hy hgr hown hgr' hkx
      have HS := Lib.hid hst; clear hst
      have HB := Lib.hid hg2; clear hg2
      go_wp2
      go_roundw
      case rel => exact ⟨k + 1, by omega, by go_num, by go_num, HS.out, HB.out⟩
      case measure => simp [intOf]; omega
    · have hkn : k = n := by omega
      subst hkn
      have HO := Lib.hid hown; clear hown
      go_wp2
      go_ret
      refine ⟨rfl, ?_, hgr⟩
      have h := HO.out
      have hl := HL.out
      subst hl
      rw [markTo_all] at h
      unfold Own
      rw [marks_len]
      exact h
theorem mark_own (ao : Option Addr) (n cap base : Nat) (xs : List Int) (q : Int) (w : World) (hl : xs.length = n) (ho : Own 2 w base (.slice ao n cap) xs) (hn : n ≤ 4294967296) (hq0 : 0 ≤ q) (hq1 : q ≤ 4294967296) :
    Calls Try.prog 22 #[.slice ao n cap, .int .i64 q] w fun e w' => e = .returned (.int .i64 (q + n)) ∧ Own 2 w' base (.slice ao n cap) (marks q n) ∧ w.grownBy w' (Value.ownBlock (.slice ao n cap)) := by
  obtain ⟨ao', cap', e, -, -, -, hcase⟩ := ho.form
  rw [hl] at e
  cases e
  rcases hcase with hnil | ⟨g, rfl, -, -⟩
  · simp only [Value.slice.injEq] at hnil
    obtain ⟨rfl, rfl, rfl⟩ := hnil
    clear ho
    go_enter Try.func22, Try.ntmps22
    go_wp2
    refine wp_loop_rounds 1 ?_
    rw [rounds_succ]
    go_wp2
    go_ret
    exact ⟨ret_int (by simp), Own.nil_, World.grownBy.refl _ _⟩
  · exact mark_any g n cap base xs q w hl ho hn hq0 hq1
theorem held_yes (ao : Option Addr) (n cap : Nat) (q : Int) (w : World) (hr : Rd w ao n (marks q n)) (hn : n ≤ 4294967296) (hq0 : 0 ≤ q) (hq1 : q ≤ 4294967296) :
    Calls Try.prog 23 #[.slice ao n cap, .int .i64 q] w fun e w' => e = .returned (.int .i64 (q + n)) ∧ w = w' := by
  obtain ⟨hlen, hat⟩ := hr
  have HA := Lib.hid hat; clear hat hlen
  go_enter Try.func23, Try.ntmps23
  go_wp2
  go_loop [1, 5] (fun v i => ∃ k : Nat, k ≤ n ∧ i = .int .i64 k ∧ v = .int .i64 (q + k)) (fun _ i => n - (intOf i).toNat)
  case atStart => exact ⟨0, Nat.zero_le _, rfl, by simp⟩
  case round =>
    obtain ⟨k, hk, rfl, rfl⟩ := hrel
    by_cases hlt : k < n
    · obtain ⟨b, off, rfl, hc⟩ := HA.out (by omega)
      have hck := hc k hlt
      rw [marks_getD q n k hlt] at hck
      clear hc HA
      have hne : ((q + (k : Int)) != (q + (k : Int))) = false := by simp
      go_wp2
      go_round
      case rel => exact ⟨k + 1, by omega, by go_num, by go_num⟩
      case measure => simp [intOf]; omega
    · have hkn : k = n := by omega
      subst hkn
      go_wp2
      go_ret
      exact ⟨rfl, rfl⟩
end
section
open Go.RowKit
end
section
open Go.RowKit
end
section
open Go.RowKit
end
end

section
section
open Go.Joins Go.ChangeShapes Go.WideShapes Go.RowKit
section
variable {H : Type} {enc : TypeId × Value → H} {P : Program} {w : World} {base : Nat} {spare : Nat → Bool} {held : Bool}
end
end
section
open Go.RowKit
section
variable {T b p : Nat} {w w' : World} {t m r s k : Int}
end
end
section
open Go.RowKit
end
section
open Go.RowKit
section
variable {t m r s k d slots rounds : Int}
end
section
variable {t m r s k d slots rounds : Int}
end
end
section
open Go.RowKit
section
variable {t m r s k d slots rounds : Int}
end
end
section
open Go.RowKit
end
section
open Go.RowKit
end
section
open Go.RowKit
theorem Rd.rest {w : World} {ao : Option Addr} {n : Nat} {xs : List Int} (h : Rd w ao n xs) {a : Nat} (ha : a ≤ n) : Rd w (Option.map (fun x => x.add a) ao) (n - a) (xs.drop a) := by
  have h1 := h.slice (a := a) (k := n - a) (by omega)
  rwa [List.take_of_length_le (by rw [List.length_drop, h.len]; exact Nat.le_refl _)] at h1
theorem Rd.first {w : World} {ao : Option Addr} {n : Nat} {xs : List Int} (h : Rd w ao n xs) {a : Nat} (ha : a ≤ n) : Rd w ao a (xs.take a) := by
  have hl := h.len
  refine ⟨by rw [List.length_take]; omega, fun h0 => ?_⟩
  obtain ⟨b, off, rfl, hc⟩ := h.here (by omega)
  exact ⟨b, off, rfl, fun i hi => by rw [hc i (by omega)]; simp [List.getD, hi]⟩
end
section
open Go.RowKit
end
end

section
section
structure Ds where
  node : Int
  kind : Int
  size : Int
  dur : Int
  chg : Bool
def Ds.zero : Ds := ⟨0, 0, 0, 0, false⟩
def cellsOf8 (a n : Int) : Int := 11 + 10 * ((bodySize a n).1 + 3)
def isDesc (d : Ds) : Bool := inRange 0 31 d.node && (kindOk d.kind && (sizeOk d.kind d.size && (!(decide (d.kind = 3) && d.chg) && inRange (cellsOf8 d.kind d.size + 20) 1000 d.dur)))
end
section
open Go.RowKit
section
variable {T b : Nat} {w w' : World} {n a z u : Int} {c : Bool}
end
theorem eqDescriptor_any (n a z u : Int) (c : Bool) (w : World) : Calls Try.prog 25 #[.agg #[.int .i64 n, .int .i64 a, .int .i64 z, .int .i64 u, .bool c], .agg #[.int .i64 n, .int .i64 a, .int .i64 z, .int .i64 u, .bool c]] w fun e w' => e = .returned (.bool true) ∧ Below w.heap.size w w' := by
  have h0 : (n != n) = false := by simp
  have h1 : (a != a) = false := by simp
  have h2 : (z != z) = false := by simp
  have h3 : (u != u) = false := by simp
  have h4 : (c != c) = false := by simp
  go_enter Try.func25, Try.ntmps25
  go_wp2
  go_ret
  exact ⟨rfl, ((Below.refl _ _).alloc (Nat.le_refl _) _).alloc (by simp) _⟩
end
section
open Go.RowKit
end
end

section
structure Sl where
  mode : Int
  round : Int
  slot : Int
  desc : Ds
def Sl.zero : Sl := ⟨0, 0, 0, Ds.zero⟩
def slOf (t : List Sl) (i : Nat) : Sl := t.getD i Sl.zero
def isSl (x : Sl) : Bool := inRange 0 15 x.mode && (inRange 0 7 x.round && (inRange 0 15 x.slot && isDesc x.desc))
def cmpSl (a b : Sl) : Int :=
  if a.mode < b.mode then -1 else if b.mode < a.mode then 1 else if a.round < b.round then -1 else if b.round < a.round then 1 else if a.slot < b.slot then -1 else if b.slot < a.slot then 1 else 0
def stepSl (t : List Sl) (i : Nat) : Bool := isSl (slOf t i) && (decide (i = 0) || decide (cmpSl (slOf t (i - 1)) (slOf t i) < 0))
def isSls (t : List Sl) : Bool := decide (t.length ≤ 120) && (List.range t.length).all (stepSl t)
def before (t : List Sl) (x : Sl) : List Sl := t.filter fun y => decide (cmpSl y x < 0)
theorem slOf_get {t : List Sl} {i : Nat} (h : i < t.length) : slOf t i = t[i] := by simp [slOf, List.getD, List.getElem?_eq_getElem h]
end

section
structure Md where
  rounds : Int
  slots : Int
  next : List Int
def Md.zero : Md := ⟨0, 0, []⟩
def mdOf (t : List Md) (i : Nat) : Md := t.getD i Md.zero
def isMd (n i : Nat) (x : Md) : Bool := inRange 1 8 x.rounds && (inRange 1 16 x.slots && (rises (n : Int) x.next && !decide ((i : Int) ∈ x.next)))
def isModes (t : List Md) : Bool := (decide (1 ≤ t.length) && decide (t.length ≤ 16)) && (List.range t.length).all fun i => isMd t.length i (mdOf t i)
theorem mdOf_get {t : List Md} {i : Nat} (h : i < t.length) : mdOf t i = t[i] := by simp [mdOf, List.getD, List.getElem?_eq_getElem h]
theorem mdOf_out {t : List Md} {i : Nat} (h : ¬ i < t.length) : mdOf t i = Md.zero := by simp [mdOf, List.getD, List.getElem?_eq_none (Nat.not_lt.1 h)]
def walk (t : List Md) : Nat → Nat → Nat → Prop
  | 0, i, j => i = j
  | n + 1, i, j => ∃ k : Nat, (k : Int) ∈ (mdOf t i).next ∧ walk t n k j
end

section
structure Nd where
  id : Int
  name : ByteArray
  drift : Int
  pas : Bool
def Nd.zero : Nd := ⟨0, ByteArray.empty, 0, false⟩
def ndOf (t : List Nd) (i : Nat) : Nd := t.getD i Nd.zero
end

section
structure Me where
  id : Int
  nodes : List Nd
  modes : List Md
  slots : List Sl
def Me.zero : Me := ⟨0, [], [], []⟩
def kSl (x : Sl) : Int := x.mode * 128 + x.round * 16 + x.slot
def roundKeys (k r S : Nat) : List Int := (List.range S).map fun s : Nat => (k : Int) * 128 + (r : Int) * 16 + (s : Int)
def keysOf (k R S : Nat) : List Int := (List.range R).flatMap fun r => roundKeys k r S
def modeKeys (ms : List Md) (k : Nat) : List Int := keysOf k (mdOf ms k).rounds.toNat (mdOf ms k).slots.toNat
def allKeys (ms : List Md) : List Int := (List.range ms.length).flatMap (modeKeys ms)
def rule5 (m : Me) : Bool := decide (m.slots.map kSl = allKeys m.modes)
section
variable {m : Me} (h4 : isSls m.slots = true) (h3 : isModes m.modes = true) (h5 : rule5 m = true)
include h4 h3 h5
end
end

section
open Go.RowKit
theorem nd_iff (x y : Nd) : (x.id = y.id ∧ x.name = y.name ∧ x.drift = y.drift ∧ x.pas = y.pas) ↔ x = y := by
  cases x; cases y; simp
instance instNdEq : DecidableEq Nd := fun x y => decidable_of_iff _ (nd_iff x y)
def ndVal (x : Nd) : Value := .agg #[.int .i64 x.id, .string x.name, .int .i64 x.drift, .bool x.pas]
def ndCells (x : Nd) : List Value := [.int .i64 x.id, .string x.name, .int .i64 x.drift, .bool x.pas]
structure NdIn (w : World) (b off : Nat) (x : Nd) : Prop where
  c0 : w.cell? ⟨b, off, none⟩ = some (.int .i64 x.id)
  c1 : w.cell? ⟨b, off + 1, none⟩ = some (.string x.name)
  c2 : w.cell? ⟨b, off + 2, none⟩ = some (.int .i64 x.drift)
  c3 : w.cell? ⟨b, off + 3, none⟩ = some (.bool x.pas)
structure RdN (w : World) (ao : Option Addr) (n : Nat) (t : List Nd) : Prop where
  len : t.length = n
  here : 0 < n → ∃ b off, ao = some ⟨b, off, none⟩ ∧ ∀ i, i < n → NdIn w b (off + i * 4) (ndOf t i)
def OwnN (E : Nat) (w : World) (base : Nat) (v : Value) (t : List Nd) : Prop := w.ownsRow base E 4 v t.length (t.flatMap ndCells)
def smallN (t : List Nd) : Prop := ∀ i, i < t.length → (ndOf t i).name.size ≤ 1048576
section
variable {w w' : World} {E T base n b off : Nat} {ao : Option Addr} {v : Value} {t : List Nd} {x : Nd}
theorem NdIn.lt (h : NdIn w b off x) : b < w.heap.size := World.block_lt_of_cell? w _ h.c0
theorem NdIn.below {B : Nat} (h : NdIn w b off x) (hb : Below B w w') (hlt : b < B) : NdIn w' b off x :=
  ⟨(hb.cell (p := ⟨b, off, none⟩) hlt).trans h.c0, (hb.cell (p := ⟨b, off + 1, none⟩) hlt).trans h.c1, (hb.cell (p := ⟨b, off + 2, none⟩) hlt).trans h.c2, (hb.cell (p := ⟨b, off + 3, none⟩) hlt).trans h.c3⟩
theorem NdIn.grown {g : Option Nat} (h : NdIn w b off x) (hg : w.grownBy w' g) (hne : some b ≠ g) : NdIn w' b off x :=
  ⟨hg.cell h.c0 hne, hg.cell h.c1 hne, hg.cell h.c2 hne, hg.cell h.c3 hne⟩
theorem RdN.nil_ : RdN w ao 0 [] := ⟨rfl, fun h => absurd h (by omega)⟩
theorem RdN.at (h : RdN w ao n t) {i : Nat} (hi : i < n) : ∃ b off, ao = some ⟨b, off, none⟩ ∧ b < w.heap.size ∧ NdIn w b (off + i * 4) (ndOf t i) := by
  obtain ⟨b, off, e, hc⟩ := h.here (by omega)
  exact ⟨b, off, e, (hc i hi).lt, hc i hi⟩
theorem RdN.below (h : RdN w ao n t) (hb : Below w.heap.size w w') : RdN w' ao n t :=
  ⟨h.len, fun hn => by
    obtain ⟨b, off, e, hc⟩ := h.here hn
    exact ⟨b, off, e, fun i hi => (hc i hi).below hb (hc i hi).lt⟩⟩
theorem RdN.only {g : Option Nat} (h : RdN w ao n t) (ho : w.grownBy w' g) (hg : ∀ b off, ao = some ⟨b, off, none⟩ → g ≠ some b) : RdN w' ao n t :=
  ⟨h.len, fun hn => by
    obtain ⟨b, off, e, hc⟩ := h.here hn
    exact ⟨b, off, e, fun i hi => (hc i hi).grown ho (fun h => hg b off e h.symm)⟩⟩
theorem ndOf_take {k i : Nat} (h : i < k) : ndOf (t.take k) i = ndOf t i := by simp [ndOf, List.getD, h]
theorem RdN.take (h : RdN w ao n t) {k : Nat} (hk : k ≤ n) : RdN w ao k (t.take k) :=
  ⟨by rw [List.length_take, h.len]; omega, fun h0 => by
    obtain ⟨b, off, e, hc⟩ := h.here (by omega)
    exact ⟨b, off, e, fun i hi => by rw [ndOf_take hi]; exact hc i (by omega)⟩⟩
theorem flatN_get (t : List Nd) (i j : Nat) (hi : i < t.length) (hj : j < 4) : (t.flatMap ndCells)[i * 4 + j]? = (ndCells (ndOf t i))[j]? := by
  induction t generalizing i with
  | nil => simp at hi
  | cons a r ih =>
    cases i with
    | zero =>
      rw [List.flatMap_cons, List.getElem?_append_left (by simp [ndCells]; omega)]
      simp [ndOf]
    | succ i =>
      rw [List.flatMap_cons, List.getElem?_append_right (by simp [ndCells]; omega)]
      rw [show (i + 1) * 4 + j - (ndCells a).length = i * 4 + j from by simp [ndCells]; omega, ih i (by simpa using hi)]
      simp [ndOf]
theorem OwnN.below (h : OwnN E w base v t) (hb : Below w.heap.size w w') : OwnN E w' base v t := by
  obtain ⟨h1, h2⟩ := h
  refine ⟨h1, ?_⟩
  rcases h2 with h2 | ⟨g, cap, cur, e, hg, hh, r⟩
  · exact .inl h2
  · exact .inr ⟨g, cap, cur, e, hg, by rw [hb.block g (Array.getElem?_eq_some_iff.1 hh).1]; exact hh, r⟩
theorem OwnN.block (h : OwnN E w base v t) : ∀ k, v.ownBlock = some k → base ≤ k ∧ k < w.heap.size := World.ownsRow.lt h
theorem OwnN.form (h : OwnN E w base v t) : ∃ ao cap, v = .slice ao t.length cap ∧ RdN w ao t.length t ∧ t.length ≤ cap ∧ cap ≤ maxLen ∧ (v = .slice none 0 0 ∨ ∃ g, ao = some ⟨g, 0, none⟩ ∧ base ≤ g ∧ g < w.heap.size) := by
  have h0 := h
  obtain ⟨h1, h2⟩ := h
  rcases h2 with ⟨rfl, h2⟩ | ⟨g, cap, cur, rfl, hg, hh, hn, hcap, hsz, htake⟩
  · have : t = [] := List.length_eq_zero_iff.1 h2
    subst this
    exact ⟨none, 0, rfl, RdN.nil_, Nat.le_refl _, by unfold maxLen; omega, .inl rfl⟩
  · unfold OwnN at h0
    have hc : ∀ i j, i < t.length → j < 4 → w.cell? ⟨g, 0 + i * 4 + j, none⟩ = (ndCells (ndOf t i))[j]? := fun i j hi hj => by
      rw [Nat.zero_add, World.ownsRow.cellAt h0 (i * 4 + j) (by omega), flatN_get t i j hi hj]
    exact ⟨_, cap, rfl, ⟨rfl, fun _ => ⟨g, 0, rfl, fun i hi => ⟨hc i 0 hi (by omega), hc i 1 hi (by omega), hc i 2 hi (by omega), hc i 3 hi (by omega)⟩⟩⟩, hn, hcap, .inr ⟨g, rfl, hg, (Array.getElem?_eq_some_iff.1 hh).1⟩⟩
theorem OwnN.cap {cap : Nat} (h : OwnN E w base (.slice ao n cap) t) : n ≤ cap ∧ cap ≤ 9223372036854775807 := by
  obtain ⟨ao', cap', e, -, h1, h2, -⟩ := h.form
  cases e
  unfold maxLen at h2
  exact ⟨h1, by omega⟩
theorem OwnN.nil_ : OwnN E w base (.slice none 0 0) [] := World.ownsRow_nil _ _ _ _
theorem OwnN.get (h : OwnN E w base v t) : ∃ ao cap, v = .slice ao t.length cap ∧ OwnN E w base (.slice ao t.length cap) t ∧ RdN w ao t.length t := by
  obtain ⟨ao, cap, rfl, r, -, -, -⟩ := h.form
  exact ⟨ao, cap, rfl, h, r⟩
theorem OwnN.only {g : Option Nat} (h : OwnN E w base v t) (ho : w.grownBy w' g) (hg : v.ownBlock = none ∨ v.ownBlock ≠ g) : OwnN E w' base v t := World.ownsRow.kept h ho hg
end
section
variable {w w' : World} {E : Nat} {t : List Nd} {e : Ending} {c d : Int}
end
end

section
open Go.RowKit
theorem grown_of_b {w w' : World} (h : Below w.heap.size w w') (g : Option Nat) : w.grownBy w' g := ⟨h.os, h.tape, h.output, h.size, fun k hk _ => h.block k hk⟩
theorem grown_set (w : World) (g j : Nat) (v : Value) : w.grownBy (w.setCell ⟨g, j, none⟩ v) (some g) :=
  ⟨rfl, rfl, rfl, by simp [World.setCell], fun k _ hne => heap_setCell_other _ _ _ _ (fun e => hne (by rw [e]))⟩
section
variable {w w' : World} {E T base b : Nat} {v : Value} {xs : List Int} {t : List Nd} {x : Nd}
theorem ownsRow_ne {size n : Nat} {cs : List Value} (h : w.ownsRow base E size v n cs) {cur : Array Value} {fz : Nat × Nat} (hb : w.heap[b]? = some (.cells cur T fz)) (hne : T ≠ E) : some b ≠ v.ownBlock := by
  intro e
  rcases h.2 with ⟨rfl, -⟩ | ⟨g, cap, c, rfl, -, hg, -⟩
  · simp [Value.ownBlock] at e
  · simp only [Value.ownBlock, Option.some.injEq] at e
    subst e
    rw [hb] at hg
    cases hg
    exact hne rfl
end
section
variable {P : Program} {E T : Nat} (w : World) {ops : Array Oper} {rest : List Oper} {o : Oper} {a : Act} {Q : Exit → Act → World → Prop} {K : Act → World → Prop}
end
structure It where
  v : Value
  E : Nat
  sz : Nat
  n : Nat
  cells : List Value
def ints (E : Nat) (v : Value) (xs : List Int) : It := ⟨v, E, 1, xs.length, xs.map (Value.int .i64)⟩
def nds (E : Nat) (v : Value) (t : List Nd) : It := ⟨v, E, 4, t.length, t.flatMap ndCells⟩
structure Hold (w0 w : World) (L : List It) : Prop where
  below : Below w0.heap.size w0 w
  own : ∀ p ∈ L, w.ownsRow w0.heap.size p.E p.sz p.v p.n p.cells
  apart : L.Pairwise fun p q => ∀ k, p.v.ownBlock = some k → q.v.ownBlock ≠ some k
section
variable {w0 w w' : World} {L : List It} {E : Nat} {v : Value} {xs : List Int} {t : List Nd} {p : It}
theorem ownsRow_below {base e size n : Nat} {cs : List Value} (h : w.ownsRow base e size v n cs) (hb : Below w.heap.size w w') : w'.ownsRow base e size v n cs := by
  obtain ⟨h1, h2⟩ := h
  refine ⟨h1, ?_⟩
  rcases h2 with h2 | ⟨g, cap, cur, e, hg, hh, r⟩
  · exact .inl h2
  · exact .inr ⟨g, cap, cur, e, hg, by rw [hb.block g (Array.getElem?_eq_some_iff.1 hh).1]; exact hh, r⟩
theorem ownsRow_more {base base' e size n : Nat} {cs : List Value} (h : w.ownsRow base e size v n cs) (hb : base' ≤ base) : w.ownsRow base' e size v n cs := by
  obtain ⟨h1, h2⟩ := h
  refine ⟨h1, ?_⟩
  rcases h2 with h2 | ⟨g, cap, cur, e, hg, r⟩
  · exact .inl h2
  · exact .inr ⟨g, cap, cur, e, Nat.le_trans hb hg, r⟩
theorem Hold.start : Hold w w [] := ⟨Below.refl _ _, (fun _ h => by cases h), List.Pairwise.nil⟩
theorem Hold.still (h : Hold w0 w L) (b : Below w.heap.size w w') : Hold w0 w' L := ⟨below_two h.below b, fun p hp => ownsRow_below (h.own p hp) b, h.apart⟩
theorem Hold.make (h : Hold w0 w L) (o : w'.ownsRow w.heap.size p.E p.sz p.v p.n p.cells) (b : Below w.heap.size w w') : Hold w0 w' (p :: L) := by
  refine ⟨below_two h.below b, fun q hq => ?_, List.Pairwise.cons (fun q hq k hk e => ?_) h.apart⟩
  · rcases List.mem_cons.1 hq with rfl | hq
    · exact ownsRow_more o h.below.size
    · exact ownsRow_below (h.own q hq) b
  · have h1 := (World.ownsRow.lt o k hk).1
    have h2 := (World.ownsRow.lt (h.own q hq) k e).2
    omega
theorem Hold.mark (L1 : List It) {L2 : List It} {q : It} (h : Hold w0 w (L1 ++ p :: L2)) (hv : q.v = p.v) (o : w'.ownsRow w0.heap.size q.E q.sz q.v q.n q.cells) (g : w.grownBy w' p.v.ownBlock) : Hold w0 w' (L1 ++ q :: L2) := by
  have ho := h.own
  have ha := h.apart
  have hb : ∀ k, p.v.ownBlock = some k → w0.heap.size ≤ k := fun k hk => (World.ownsRow.lt (ho p (by simp)) k hk).1
  refine ⟨h.below.grown g h.below.size hb, fun r hr => ?_, ?_⟩
  · rw [List.mem_append, List.mem_cons] at hr
    rw [List.pairwise_append, List.pairwise_cons] at ha
    rcases hr with hr | rfl | hr
    · refine World.ownsRow.kept (ho r (by simp [hr])) g ?_
      cases hk : r.v.ownBlock with
      | none => exact .inl rfl
      | some k => exact .inr (fun e => ha.2.2 r hr p (by simp) k hk e.symm)
    · exact o
    · refine World.ownsRow.kept (ho r (by simp [hr])) g ?_
      cases hk : r.v.ownBlock with
      | none => exact .inl rfl
      | some k => exact .inr (fun e => ha.2.1.1 r hr k e.symm hk)
  · rw [List.pairwise_append, List.pairwise_cons] at ha ⊢
    refine ⟨ha.1, ⟨fun r hr k hk => ha.2.1.1 r hr k (by rw [← hv]; exact hk), ha.2.1.2⟩, fun r hr s hs k hk => ?_⟩
    rcases List.mem_cons.1 hs with rfl | hs
    · rw [hv]; exact ha.2.2 r hr p (by simp) k hk
    · exact ha.2.2 r hr s (by simp [hs]) k hk
end
end

section
open Go.RowKit
structure Mc where
  md : Md
  ao : Option Addr
  cap : Nat
def Mc.v (c : Mc) : Value := .slice c.ao c.md.next.length c.cap
def Mc.zero : Mc := ⟨Md.zero, none, 0⟩
def mcVal (c : Mc) : Value := .agg #[.int .i64 c.md.rounds, .int .i64 c.md.slots, .slice c.ao c.md.next.length c.cap]
def mcCells (c : Mc) : List Value := [.int .i64 c.md.rounds, .int .i64 c.md.slots, .slice c.ao c.md.next.length c.cap]
def mcOf (cs : List Mc) (i : Nat) : Mc := cs.getD i Mc.zero
def mds (cs : List Mc) : List Md := cs.map Mc.md
structure McIn (w : World) (b off : Nat) (c : Mc) : Prop where
  c0 : w.cell? ⟨b, off, none⟩ = some (.int .i64 c.md.rounds)
  c1 : w.cell? ⟨b, off + 1, none⟩ = some (.int .i64 c.md.slots)
  c2 : w.cell? ⟨b, off + 2, none⟩ = some (.slice c.ao c.md.next.length c.cap)
structure McRd (w : World) (c : Mc) : Prop where
  rd : Rd w c.ao c.md.next.length c.md.next
  le : c.md.next.length ≤ c.cap
  cap : c.cap ≤ 9223372036854775807
structure RdM (w : World) (ao : Option Addr) (n : Nat) (cs : List Mc) : Prop where
  len : cs.length = n
  here : 0 < n → ∃ b off, ao = some ⟨b, off, none⟩ ∧ ∀ i, i < n → McIn w b (off + i * 3) (mcOf cs i)
  next : ∀ c ∈ cs, McRd w c
structure OwnM (E EI : Nat) (w : World) (base : Nat) (v : Value) (cs : List Mc) : Prop where
  row : w.ownsRow base E 3 v cs.length (cs.flatMap mcCells)
  nx : ∀ c ∈ cs, Own EI w base c.v c.md.next
  apart : cs.Pairwise fun p q => ∀ k, p.v.ownBlock = some k → q.v.ownBlock ≠ some k
theorem mds_len (cs : List Mc) : (mds cs).length = cs.length := List.length_map ..
theorem mcOf_get {cs : List Mc} {i : Nat} (h : i < cs.length) : mcOf cs i = cs[i] := by simp [mcOf, List.getD, List.getElem?_eq_getElem h]
theorem mcOf_mem {cs : List Mc} {i : Nat} (h : i < cs.length) : mcOf cs i ∈ cs := by rw [mcOf_get h]; exact List.getElem_mem h
theorem mdOf_mds (cs : List Mc) (i : Nat) : mdOf (mds cs) i = (mcOf cs i).md := by
  by_cases h : i < cs.length
  · rw [mdOf_get (by rw [mds_len]; exact h), mcOf_get h]; simp [mds]
  · rw [mdOf_out (by rw [mds_len]; exact h)]
    simp [mcOf, List.getD, List.getElem?_eq_none (Nat.not_lt.1 h), Mc.zero]
theorem mcOf_take {cs : List Mc} {k i : Nat} (h : i < k) : mcOf (cs.take k) i = mcOf cs i := by simp [mcOf, List.getD, h]
section
variable {w w' : World} {E EI T base n b off : Nat} {ao : Option Addr} {v : Value} {cs : List Mc} {c : Mc}
theorem McIn.lt (h : McIn w b off c) : b < w.heap.size := World.block_lt_of_cell? w _ h.c0
theorem McIn.below {B : Nat} (h : McIn w b off c) (hb : Below B w w') (hlt : b < B) : McIn w' b off c :=
  ⟨(hb.cell (p := ⟨b, off, none⟩) hlt).trans h.c0, (hb.cell (p := ⟨b, off + 1, none⟩) hlt).trans h.c1, (hb.cell (p := ⟨b, off + 2, none⟩) hlt).trans h.c2⟩
theorem McIn.grown {g : Option Nat} (h : McIn w b off c) (hg : w.grownBy w' g) (hne : some b ≠ g) : McIn w' b off c :=
  ⟨hg.cell h.c0 hne, hg.cell h.c1 hne, hg.cell h.c2 hne⟩
theorem McRd.below (h : McRd w c) (hb : Below w.heap.size w w') : McRd w' c := ⟨h.rd.below hb, h.le, h.cap⟩
theorem RdM.nil_ : RdM w ao 0 [] := ⟨rfl, fun h => absurd h (by omega), fun _ h => by cases h⟩
theorem RdM.at (h : RdM w ao n cs) {i : Nat} (hi : i < n) : ∃ b off, ao = some ⟨b, off, none⟩ ∧ b < w.heap.size ∧ McIn w b (off + i * 3) (mcOf cs i) ∧ McRd w (mcOf cs i) := by
  obtain ⟨b, off, e, hc⟩ := h.here (by omega)
  exact ⟨b, off, e, (hc i hi).lt, hc i hi, h.next _ (mcOf_mem (by rw [h.len]; exact hi))⟩
theorem RdM.below (h : RdM w ao n cs) (hb : Below w.heap.size w w') : RdM w' ao n cs :=
  ⟨h.len, fun hn => by
    obtain ⟨b, off, e, hc⟩ := h.here hn
    exact ⟨b, off, e, fun i hi => (hc i hi).below hb (hc i hi).lt⟩, fun c hc => (h.next c hc).below hb⟩
theorem flatM_get (cs : List Mc) (i j : Nat) (hi : i < cs.length) (hj : j < 3) : (cs.flatMap mcCells)[i * 3 + j]? = (mcCells (mcOf cs i))[j]? := by
  induction cs generalizing i with
  | nil => simp at hi
  | cons a r ih =>
    cases i with
    | zero =>
      rw [List.flatMap_cons, List.getElem?_append_left (by simp [mcCells]; omega)]
      simp [mcOf]
    | succ i =>
      rw [List.flatMap_cons, List.getElem?_append_right (by simp [mcCells]; omega)]
      rw [show (i + 1) * 3 + j - (mcCells a).length = i * 3 + j from by simp [mcCells]; omega, ih i (by simpa using hi)]
      simp [mcOf]
theorem rows_ne {base' s s' m : Nat} {v2 : Value} {xs ys : List Value} (h1 : w.ownsRow base E s v n xs) (h2 : w.ownsRow base' EI s' v2 m ys) (hne : E ≠ EI) : ∀ k, v.ownBlock = some k → v2.ownBlock ≠ some k := by
  intro k e1 e2
  rcases h1.2 with ⟨rfl, -⟩ | ⟨g, cap, cur, rfl, -, hg, -⟩
  · simp [Value.ownBlock] at e1
  · simp only [Value.ownBlock, Option.some.injEq] at e1
    subst e1
    exact ownsRow_ne h2 hg hne e2.symm
theorem OwnM.below (h : OwnM E EI w base v cs) (hb : Below w.heap.size w w') : OwnM E EI w' base v cs := ⟨ownsRow_below h.row hb, fun c hc => (h.nx c hc).below hb, h.apart⟩
theorem Own.mcRd (h : Own EI w base c.v c.md.next) : McRd w c := by
  obtain ⟨ao', cap', e, r, h1, h2, -⟩ := h.form
  unfold Mc.v at e
  unfold maxLen at h2
  cases e
  exact ⟨r, h1, by omega⟩
theorem OwnM.form (h : OwnM E EI w base v cs) : ∃ ao cap, v = .slice ao cs.length cap ∧ RdM w ao cs.length cs ∧ cs.length ≤ cap ∧ cap ≤ maxLen ∧ (v = .slice none 0 0 ∨ ∃ g, ao = some ⟨g, 0, none⟩ ∧ base ≤ g ∧ g < w.heap.size) := by
  have hnx : ∀ c ∈ cs, McRd w c := fun c hc => (h.nx c hc).mcRd
  have h0 := h.row
  rcases h.row.2 with ⟨rfl, h2⟩ | ⟨g, cap, cur, rfl, hg, hh, hn, hcap, hsz, htake⟩
  · have : cs = [] := List.length_eq_zero_iff.1 h2
    subst this
    exact ⟨none, 0, rfl, RdM.nil_, Nat.le_refl _, by unfold maxLen; omega, .inl rfl⟩
  · have hc : ∀ i j, i < cs.length → j < 3 → w.cell? ⟨g, 0 + i * 3 + j, none⟩ = (mcCells (mcOf cs i))[j]? := fun i j hi hj => by
      rw [Nat.zero_add, World.ownsRow.cellAt h0 (i * 3 + j) (by omega), flatM_get cs i j hi hj]
    exact ⟨_, cap, rfl, ⟨rfl, fun _ => ⟨g, 0, rfl, fun i hi => ⟨hc i 0 hi (by omega), hc i 1 hi (by omega), hc i 2 hi (by omega)⟩⟩, hnx⟩, hn, hcap, .inr ⟨g, rfl, hg, (Array.getElem?_eq_some_iff.1 hh).1⟩⟩
theorem OwnM.cap {cap : Nat} (h : OwnM E EI w base (.slice ao n cap) cs) : n ≤ cap ∧ cap ≤ 9223372036854775807 := by
  obtain ⟨ao', cap', e, -, h1, h2, -⟩ := h.form
  cases e
  unfold maxLen at h2
  exact ⟨h1, by omega⟩
theorem OwnM.nil_ : OwnM E EI w base (.slice none 0 0) [] := ⟨World.ownsRow_nil _ _ _ _, (fun _ h => by cases h), List.Pairwise.nil⟩
theorem OwnM.get (h : OwnM E EI w base v cs) : ∃ ao cap, v = .slice ao cs.length cap ∧ OwnM E EI w base (.slice ao cs.length cap) cs ∧ RdM w ao cs.length cs := by
  obtain ⟨ao, cap, rfl, r, -, -, -⟩ := h.form
  exact ⟨ao, cap, rfl, h, r⟩
theorem OwnM.block (h : OwnM E EI w base v cs) : ∀ k, v.ownBlock = some k → base ≤ k ∧ k < w.heap.size := World.ownsRow.lt h.row
theorem OwnM.turned (hne : E ≠ EI) (h : OwnM E EI w base v cs) {g : Option Nat} (hg : w.grownBy w' g) (hv : g = none ∨ g = v.ownBlock) : ∀ c ∈ cs, Own EI w' base c.v c.md.next := by
  intro c hc
  have hne' : EI ≠ E := fun e => hne e.symm
  refine (h.nx c hc).only hg ?_
  rcases hb : c.v.ownBlock with _ | k
  · exact .inl rfl
  · refine .inr (fun e => ?_)
    rcases hv with rfl | rfl
    · cases e
    · exact rows_ne (show w.ownsRow base EI 1 c.v _ _ from h.nx c hc) h.row hne' k hb e.symm
def setMc (w : World) (b off : Nat) (c : Mc) : World := ((w.setCell ⟨b, off, none⟩ (.int .i64 c.md.rounds)).setCell ⟨b, off + 1, none⟩ (.int .i64 c.md.slots)).setCell ⟨b, off + 2, none⟩ (.slice c.ao c.md.next.length c.cap)
theorem below_mc {B b off : Nat} {w : World} (hb : B ≤ b) (c : Mc) : Below B w (setMc w b off c) := (((Below.refl _ _).setCell hb _).setCell hb _).setCell hb _
end
theorem grown_set' (w : World) (g j : Nat) (v : Value) : w.grownBy (w.setCell ⟨g, j, none⟩ v) (some g) := ⟨rfl, rfl, rfl, by simp [World.setCell], fun k _ hne => heap_setCell_other _ _ _ _ (fun e => hne (by rw [e]))⟩
theorem mcOf_set {cs : List Mc} {k : Nat} (h : k < cs.length) (y : Mc) : mcOf (cs.set k y) k = y := by simp [mcOf, List.getD, h]
theorem flatM_set : ∀ (cs : List Mc) (k : Nat), k < cs.length → ∀ (j : Nat) (u : Value) (y : Mc), mcCells y = (mcCells (mcOf cs k)).set j u → j < 3 → (cs.flatMap mcCells).set (k * 3 + j) u = (cs.set k y).flatMap mcCells
  | [], _, h, _, _, _, _, _ => by simp at h
  | a :: r, 0, _, j, u, y, e, hj => by
    have e2 : mcOf (a :: r) 0 = a := by simp [mcOf]
    rw [e2] at e
    rw [List.set_cons_zero, List.flatMap_cons, List.flatMap_cons, e, Nat.zero_mul, Nat.zero_add]
    rw [List.set_append_left _ _ (by simp [mcCells]; omega)]
  | a :: r, k + 1, h, j, u, y, e, hj => by
    have e2 : mcOf (a :: r) (k + 1) = mcOf r k := by simp [mcOf]
    rw [e2] at e
    rw [List.set_cons_succ, List.flatMap_cons, List.flatMap_cons, List.set_append_right _ _ (by simp [mcCells]; omega)]
    rw [show (k + 1) * 3 + j - (mcCells a).length = k * 3 + j from by simp [mcCells]; omega, flatM_set r k (by simpa using h) j u y e hj]
section
variable {E EI : Nat} {w : World} {base g n cap : Nat} {cs : List Mc}
theorem rowM_field (ho : w.ownsRow base E 3 (.slice (some ⟨g, 0, none⟩) n cap) n (cs.flatMap mcCells)) (hl : cs.length = n) {k : Nat} (hk : k < n) {j : Nat} (hj : j < 3) {u : Value} {y : Mc} (e : mcCells y = (mcCells (mcOf cs k)).set j u) :
    w.frozen? ⟨g, k * 3 + j, none⟩ = false ∧ (w.setCell ⟨g, k * 3 + j, none⟩ u).ownsRow base E 3 (.slice (some ⟨g, 0, none⟩) n cap) n ((cs.set k y).flatMap mcCells) := by
  refine ⟨World.ownsRow.frozenAt ho _, ?_⟩
  have h := (World.ownsRow.stored ho (k * 3 + j) u).1
  rw [flatM_set cs k (by omega) j u y e hj] at h
  exact h
theorem rowM_in (ho : w.ownsRow base E 3 (.slice (some ⟨g, 0, none⟩) n cap) n (cs.flatMap mcCells)) (hl : cs.length = n) {k : Nat} (hk : k < n) : McIn w g (k * 3) (mcOf cs k) := by
  have hc : ∀ j, j < 3 → w.cell? ⟨g, k * 3 + j, none⟩ = (mcCells (mcOf cs k))[j]? := fun j hj => by
    rw [World.ownsRow.cellAt ho (k * 3 + j) (by omega), flatM_get cs k j (by omega) hj]
  exact ⟨hc 0 (by omega), hc 1 (by omega), hc 2 (by omega)⟩
theorem rowM_store (ho : w.ownsRow base E 3 (.slice (some ⟨g, 0, none⟩) n cap) n (cs.flatMap mcCells)) (hl : cs.length = n) {k : Nat} (hk : k < n) (x : Mc) :
    McIn w g (k * 3) (mcOf cs k) ∧ (w.frozen? ⟨g, k * 3, none⟩ = false ∧ w.frozen? ⟨g, k * 3 + 1, none⟩ = false ∧ w.frozen? ⟨g, k * 3 + 2, none⟩ = false) ∧
      (setMc w g (k * 3) x).ownsRow base E 3 (.slice (some ⟨g, 0, none⟩) n cap) n ((cs.set k x).flatMap mcCells) ∧ w.grownBy (setMc w g (k * 3) x) (some g) := by
  have hin := rowM_in ho hl hk
  have hkt : k < cs.length := by omega
  generalize hz : mcOf cs k = z at hin ⊢
  obtain ⟨f0, o0⟩ := rowM_field (j := 0) (u := .int .i64 x.md.rounds) (y := ⟨⟨x.md.rounds, z.md.slots, z.md.next⟩, z.ao, z.cap⟩) ho hl hk (by omega) (by rw [hz]; rfl)
  obtain ⟨f1, -⟩ := rowM_field (j := 1) (u := .int .i64 x.md.slots) (y := ⟨⟨z.md.rounds, x.md.slots, z.md.next⟩, z.ao, z.cap⟩) ho hl hk (by omega) (by rw [hz]; rfl)
  obtain ⟨f2, -⟩ := rowM_field (j := 2) (u := .slice x.ao x.md.next.length x.cap) (y := ⟨⟨z.md.rounds, z.md.slots, x.md.next⟩, x.ao, x.cap⟩) ho hl hk (by omega) (by rw [hz]; rfl)
  obtain ⟨-, o1⟩ := rowM_field (j := 1) (u := .int .i64 x.md.slots) (y := ⟨⟨x.md.rounds, x.md.slots, z.md.next⟩, z.ao, z.cap⟩) o0 (by rw [List.length_set]; exact hl) hk (by omega) (by rw [mcOf_set hkt]; rfl)
  rw [List.set_set] at o1
  obtain ⟨-, o2⟩ := rowM_field (j := 2) (u := .slice x.ao x.md.next.length x.cap) (y := x) o1 (by rw [List.length_set]; exact hl) hk (by omega) (by rw [mcOf_set hkt]; rfl)
  rw [List.set_set] at o2
  refine ⟨hin, ⟨f0, f1, f2⟩, o2, ?_⟩
  have gs : ∀ (w : World) (j : Nat) (v : Value), w.grownBy (w.setCell ⟨g, j, none⟩ v) (some g) := fun w j v => ⟨rfl, rfl, rfl, by simp [World.setCell], fun k _ hne => heap_setCell_other _ _ _ _ (fun e => hne (by rw [e]))⟩
  exact grown_trans (grown_trans (gs w _ _) (gs _ _ _)) (gs _ _ _)
theorem OwnM.store (hne : E ≠ EI) (ho : OwnM E EI w base (.slice (some ⟨g, 0, none⟩) n cap) cs) (hl : cs.length = n) {k : Nat} (hk : k < n) (x : Mc) (hx : Own EI w base x.v x.md.next) (ha : ∀ d ∈ cs, ∀ k, d.v.ownBlock = some k → x.v.ownBlock ≠ some k) :
    McIn w g (k * 3) (mcOf cs k) ∧ (w.frozen? ⟨g, k * 3, none⟩ = false ∧ w.frozen? ⟨g, k * 3 + 1, none⟩ = false ∧ w.frozen? ⟨g, k * 3 + 2, none⟩ = false) ∧
      OwnM E EI (setMc w g (k * 3) x) base (.slice (some ⟨g, 0, none⟩) n cap) (cs.set k x) ∧ Below base w (setMc w g (k * 3) x) := by
  have hr := ho.row
  rw [hl] at hr
  obtain ⟨h1, h2, h3, h4⟩ := rowM_store hr hl hk x
  refine ⟨h1, h2, ⟨by rw [List.length_set, hl]; exact h3, fun d hd => ?_, ?_⟩, below_mc (ho.block g rfl).1 x⟩
  · rcases List.mem_or_eq_of_mem_set hd with hd | rfl
    · exact ho.turned hne h4 (.inr rfl) d hd
    · refine hx.only h4 ?_
      rcases hb : d.v.ownBlock with _ | j
      · exact .inl rfl
      · exact .inr (fun e => rows_ne (show w.ownsRow base EI 1 d.v _ _ from hx) ho.row (fun e => hne e.symm) j hb (by rw [e]; rfl))
  · rw [List.pairwise_iff_getElem]
    intro i j hi hj hij b e
    have hp := List.pairwise_iff_getElem.1 ho.apart
    rw [List.length_set] at hi hj
    rw [List.getElem_set] at e ⊢
    split at e
    · rename_i e1
      rw [if_neg (by omega)]
      exact fun e2 => ha _ (List.getElem_mem hj) b e2 e
    · split
      · exact ha _ (List.getElem_mem hi) b e
      · exact hp i j hi hj hij b e
end
section
variable {w w' : World} {E EI : Nat} {t : List Md} {e : Ending} {c d : Int}
end
section
variable {P : Program} {E EI T : Nat} (w : World) {ops : Array Oper} {rest : List Oper} {o : Oper} {a : Act} {Q : Exit → Act → World → Prop} {K : Act → World → Prop}
end
def mrow (E : Nat) (v : Value) (cs : List Mc) : It := ⟨v, E, 3, cs.length, cs.flatMap mcCells⟩
def nxs (EI : Nat) (cs : List Mc) : List It := cs.map fun c => ints EI c.v c.md.next
def mis (E EI : Nat) (v : Value) (cs : List Mc) : List It := mrow E v cs :: nxs EI cs
section
variable {w0 w w' : World} {L : List It} {E EI : Nat} {v : Value} {cs : List Mc}
theorem Hold.makeL (h : Hold w0 w L) (L1 : List It) (o : ∀ p ∈ L1, w'.ownsRow w.heap.size p.E p.sz p.v p.n p.cells) (ap : L1.Pairwise fun p q => ∀ k, p.v.ownBlock = some k → q.v.ownBlock ≠ some k) (b : Below w.heap.size w w') : Hold w0 w' (L1 ++ L) := by
  refine ⟨below_two h.below b, fun q hq => ?_, ?_⟩
  · rcases List.mem_append.1 hq with hq | hq
    · exact ownsRow_more (o q hq) h.below.size
    · exact ownsRow_below (h.own q hq) b
  · rw [List.pairwise_append]
    refine ⟨ap, h.apart, fun p hp q hq k hk e => ?_⟩
    have h1 := (World.ownsRow.lt (o p hp) k hk).1
    have h2 := (World.ownsRow.lt (h.own q hq) k e).2
    omega
theorem OwnM.items (hne : E ≠ EI) {base : Nat} (h : OwnM E EI w base v cs) : (∀ p ∈ mis E EI v cs, w.ownsRow base p.E p.sz p.v p.n p.cells) ∧ (mis E EI v cs).Pairwise fun p q => ∀ k, p.v.ownBlock = some k → q.v.ownBlock ≠ some k := by
  refine ⟨fun p hp => ?_, ?_⟩
  · rcases List.mem_cons.1 hp with rfl | hp
    · exact h.row
    · obtain ⟨c, hc, rfl⟩ := List.mem_map.1 hp
      exact h.nx c hc
  · refine List.Pairwise.cons (fun p hp k e1 e2 => ?_) ?_
    · obtain ⟨c, hc, rfl⟩ := List.mem_map.1 hp
      exact rows_ne h.row (h.nx c hc) hne k e1 e2
    · exact List.Pairwise.map _ (fun p q h => h) h.apart
theorem Hold.getM {L1 L2 : List It} (h : Hold w0 w (L1 ++ (mis E EI v cs ++ L2))) : OwnM E EI w w0.heap.size v cs := by
  refine ⟨h.own (mrow E v cs) (by simp [mis]), fun c hc => h.own (ints EI c.v c.md.next) ?_, ?_⟩
  · simp only [List.mem_append]
    exact .inr (.inl (List.mem_cons_of_mem _ (List.mem_map_of_mem hc)))
  · have h1 := (List.pairwise_append.1 (List.pairwise_append.1 h.apart).2.1).1
    have h2 := (List.pairwise_cons.1 h1).2
    unfold nxs at h2
    rw [List.pairwise_map] at h2
    exact h2
end
end

section
open Go.RowKit
def slVal (x : Sl) : Value := .agg #[.int .i64 x.mode, .int .i64 x.round, .int .i64 x.slot, .int .i64 x.desc.node, .int .i64 x.desc.kind, .int .i64 x.desc.size, .int .i64 x.desc.dur, .bool x.desc.chg]
def slCells (x : Sl) : List Value := [.int .i64 x.mode, .int .i64 x.round, .int .i64 x.slot, .int .i64 x.desc.node, .int .i64 x.desc.kind, .int .i64 x.desc.size, .int .i64 x.desc.dur, .bool x.desc.chg]
structure SlIn (w : World) (b off : Nat) (x : Sl) : Prop where
  c0 : w.cell? ⟨b, off, none⟩ = some (.int .i64 x.mode)
  c1 : w.cell? ⟨b, off + 1, none⟩ = some (.int .i64 x.round)
  c2 : w.cell? ⟨b, off + 2, none⟩ = some (.int .i64 x.slot)
  c3 : w.cell? ⟨b, off + 3, none⟩ = some (.int .i64 x.desc.node)
  c4 : w.cell? ⟨b, off + 4, none⟩ = some (.int .i64 x.desc.kind)
  c5 : w.cell? ⟨b, off + 5, none⟩ = some (.int .i64 x.desc.size)
  c6 : w.cell? ⟨b, off + 6, none⟩ = some (.int .i64 x.desc.dur)
  c7 : w.cell? ⟨b, off + 7, none⟩ = some (.bool x.desc.chg)
def SlBk (T : Nat) (w : World) (b : Nat) (x : Sl) : Prop := w.heap[b]? = some (.cells #[.int .i64 x.mode, .int .i64 x.round, .int .i64 x.slot, .int .i64 x.desc.node, .int .i64 x.desc.kind, .int .i64 x.desc.size, .int .i64 x.desc.dur, .bool x.desc.chg] T (0, 0))
structure RdE (w : World) (ao : Option Addr) (n : Nat) (t : List Sl) : Prop where
  len : t.length = n
  here : 0 < n → ∃ b off, ao = some ⟨b, off, none⟩ ∧ ∀ i, i < n → SlIn w b (off + i * 8) (slOf t i)
def OwnE (E : Nat) (w : World) (base : Nat) (v : Value) (t : List Sl) : Prop := w.ownsRow base E 8 v t.length (t.flatMap slCells)
def setSl (w : World) (b off : Nat) (x : Sl) : World := (((((((w.setCell ⟨b, off, none⟩ (.int .i64 x.mode)).setCell ⟨b, off + 1, none⟩ (.int .i64 x.round)).setCell ⟨b, off + 2, none⟩ (.int .i64 x.slot)).setCell ⟨b, off + 3, none⟩ (.int .i64 x.desc.node)).setCell ⟨b, off + 4, none⟩ (.int .i64 x.desc.kind)).setCell ⟨b, off + 5, none⟩ (.int .i64 x.desc.size)).setCell ⟨b, off + 6, none⟩ (.int .i64 x.desc.dur)).setCell ⟨b, off + 7, none⟩ (.bool x.desc.chg)
section
variable {w w' : World} {E T base n b off : Nat} {ao : Option Addr} {v : Value} {t : List Sl} {x : Sl}
theorem SlIn.lt (h : SlIn w b off x) : b < w.heap.size := World.block_lt_of_cell? w _ h.c0
theorem SlIn.below {B : Nat} (h : SlIn w b off x) (hb : Below B w w') (hlt : b < B) : SlIn w' b off x :=
  ⟨(hb.cell (p := ⟨b, off, none⟩) hlt).trans h.c0, (hb.cell (p := ⟨b, off + 1, none⟩) hlt).trans h.c1, (hb.cell (p := ⟨b, off + 2, none⟩) hlt).trans h.c2, (hb.cell (p := ⟨b, off + 3, none⟩) hlt).trans h.c3, (hb.cell (p := ⟨b, off + 4, none⟩) hlt).trans h.c4, (hb.cell (p := ⟨b, off + 5, none⟩) hlt).trans h.c5, (hb.cell (p := ⟨b, off + 6, none⟩) hlt).trans h.c6, (hb.cell (p := ⟨b, off + 7, none⟩) hlt).trans h.c7⟩
theorem SlIn.grown {g : Option Nat} (h : SlIn w b off x) (hg : w.grownBy w' g) (hne : some b ≠ g) : SlIn w' b off x :=
  ⟨hg.cell h.c0 hne, hg.cell h.c1 hne, hg.cell h.c2 hne, hg.cell h.c3 hne, hg.cell h.c4 hne, hg.cell h.c5 hne, hg.cell h.c6 hne, hg.cell h.c7 hne⟩
theorem SlBk.in_ (h : SlBk T w b x) : SlIn w b 0 x := ⟨cell_of_row w b 0 _ _ (0, 0) h, cell_of_row w b 1 _ _ (0, 0) h, cell_of_row w b 2 _ _ (0, 0) h, cell_of_row w b 3 _ _ (0, 0) h, cell_of_row w b 4 _ _ (0, 0) h, cell_of_row w b 5 _ _ (0, 0) h, cell_of_row w b 6 _ _ (0, 0) h, cell_of_row w b 7 _ _ (0, 0) h⟩
theorem SlBk.f (h : SlBk T w b x) (i : Nat) : w.frozen? ⟨b, i, none⟩ = false := frozen_of_row w b i _ _ h
theorem SlBk.lt (h : SlBk T w b x) : b < w.heap.size := (Array.getElem?_eq_some_iff.1 h).1
theorem SlBk.below {B : Nat} (h : SlBk T w b x) (hb : Below B w w') (hlt : b < B) : SlBk T w' b x := (hb.block b hlt).trans h
theorem SlBk.grown {g : Option Nat} (h : SlBk T w b x) (hg : w.grownBy w' g) (hne : some b ≠ g) : SlBk T w' b x := (hg.block b h.lt hne).trans h
theorem SlBk.new (w : World) : SlBk T (w.alloc (.cells #[.int .i64 x.mode, .int .i64 x.round, .int .i64 x.slot, .int .i64 x.desc.node, .int .i64 x.desc.kind, .int .i64 x.desc.size, .int .i64 x.desc.dur, .bool x.desc.chg] T)) w.heap.size x := heap_alloc_new w _
theorem RdE.nil_ : RdE w ao 0 [] := ⟨rfl, fun h => absurd h (by omega)⟩
theorem RdE.at (h : RdE w ao n t) {i : Nat} (hi : i < n) : ∃ b off, ao = some ⟨b, off, none⟩ ∧ b < w.heap.size ∧ SlIn w b (off + i * 8) (slOf t i) := by
  obtain ⟨b, off, e, hc⟩ := h.here (by omega)
  exact ⟨b, off, e, (hc i hi).lt, hc i hi⟩
theorem RdE.below (h : RdE w ao n t) (hb : Below w.heap.size w w') : RdE w' ao n t :=
  ⟨h.len, fun hn => by
    obtain ⟨b, off, e, hc⟩ := h.here hn
    exact ⟨b, off, e, fun i hi => (hc i hi).below hb (hc i hi).lt⟩⟩
theorem RdE.only {g : Option Nat} (h : RdE w ao n t) (ho : w.grownBy w' g) (hg : ∀ b off, ao = some ⟨b, off, none⟩ → g ≠ some b) : RdE w' ao n t :=
  ⟨h.len, fun hn => by
    obtain ⟨b, off, e, hc⟩ := h.here hn
    exact ⟨b, off, e, fun i hi => (hc i hi).grown ho (fun h => hg b off e h.symm)⟩⟩
theorem slOf_take {k i : Nat} (h : i < k) : slOf (t.take k) i = slOf t i := by simp [slOf, List.getD, h]
theorem RdE.take (h : RdE w ao n t) {k : Nat} (hk : k ≤ n) : RdE w ao k (t.take k) :=
  ⟨by rw [List.length_take, h.len]; omega, fun h0 => by
    obtain ⟨b, off, e, hc⟩ := h.here (by omega)
    exact ⟨b, off, e, fun i hi => by rw [slOf_take hi]; exact hc i (by omega)⟩⟩
theorem flatE_get (t : List Sl) (i j : Nat) (hi : i < t.length) (hj : j < 8) : (t.flatMap slCells)[i * 8 + j]? = (slCells (slOf t i))[j]? := by
  induction t generalizing i with
  | nil => simp at hi
  | cons a r ih =>
    cases i with
    | zero =>
      rw [List.flatMap_cons, List.getElem?_append_left (by simp [slCells]; omega)]
      simp [slOf]
    | succ i =>
      rw [List.flatMap_cons, List.getElem?_append_right (by simp [slCells]; omega)]
      rw [show (i + 1) * 8 + j - (slCells a).length = i * 8 + j from by simp [slCells]; omega, ih i (by simpa using hi)]
      simp [slOf]
theorem OwnE.below (h : OwnE E w base v t) (hb : Below w.heap.size w w') : OwnE E w' base v t := by
  obtain ⟨h1, h2⟩ := h
  refine ⟨h1, ?_⟩
  rcases h2 with h2 | ⟨g, cap, cur, e, hg, hh, r⟩
  · exact .inl h2
  · exact .inr ⟨g, cap, cur, e, hg, by rw [hb.block g (Array.getElem?_eq_some_iff.1 hh).1]; exact hh, r⟩
theorem OwnE.block (h : OwnE E w base v t) : ∀ k, v.ownBlock = some k → base ≤ k ∧ k < w.heap.size := World.ownsRow.lt h
theorem OwnE.form (h : OwnE E w base v t) : ∃ ao cap, v = .slice ao t.length cap ∧ RdE w ao t.length t ∧ t.length ≤ cap ∧ cap ≤ maxLen ∧ (v = .slice none 0 0 ∨ ∃ g, ao = some ⟨g, 0, none⟩ ∧ base ≤ g ∧ g < w.heap.size) := by
  have h0 := h
  obtain ⟨h1, h2⟩ := h
  rcases h2 with ⟨rfl, h2⟩ | ⟨g, cap, cur, rfl, hg, hh, hn, hcap, hsz, htake⟩
  · have : t = [] := List.length_eq_zero_iff.1 h2
    subst this
    exact ⟨none, 0, rfl, RdE.nil_, Nat.le_refl _, by unfold maxLen; omega, .inl rfl⟩
  · unfold OwnE at h0
    have hc : ∀ i j, i < t.length → j < 8 → w.cell? ⟨g, 0 + i * 8 + j, none⟩ = (slCells (slOf t i))[j]? := fun i j hi hj => by
      rw [Nat.zero_add, World.ownsRow.cellAt h0 (i * 8 + j) (by omega), flatE_get t i j hi hj]
    exact ⟨_, cap, rfl, ⟨rfl, fun _ => ⟨g, 0, rfl, fun i hi => ⟨hc i 0 hi (by omega), hc i 1 hi (by omega), hc i 2 hi (by omega), hc i 3 hi (by omega), hc i 4 hi (by omega), hc i 5 hi (by omega), hc i 6 hi (by omega), hc i 7 hi (by omega)⟩⟩⟩, hn, hcap, .inr ⟨g, rfl, hg, (Array.getElem?_eq_some_iff.1 hh).1⟩⟩
theorem OwnE.cap {cap : Nat} (h : OwnE E w base (.slice ao n cap) t) : n ≤ cap ∧ cap ≤ 9223372036854775807 := by
  obtain ⟨ao', cap', e, -, h1, h2, -⟩ := h.form
  cases e
  unfold maxLen at h2
  exact ⟨h1, by omega⟩
theorem OwnE.nil_ : OwnE E w base (.slice none 0 0) [] := World.ownsRow_nil _ _ _ _
theorem OwnE.get (h : OwnE E w base v t) : ∃ ao cap, v = .slice ao t.length cap ∧ OwnE E w base (.slice ao t.length cap) t ∧ RdE w ao t.length t := by
  obtain ⟨ao, cap, rfl, r, -, -, -⟩ := h.form
  exact ⟨ao, cap, rfl, h, r⟩
theorem OwnE.only {g : Option Nat} (h : OwnE E w base v t) (ho : w.grownBy w' g) (hg : v.ownBlock = none ∨ v.ownBlock ≠ g) : OwnE E w' base v t := World.ownsRow.kept h ho hg
end
section
variable {w w' : World} {E : Nat} {t : List Sl} {e : Ending} {c d : Int}
end
theorem slOf_set {t : List Sl} {k : Nat} (h : k < t.length) (y : Sl) : slOf (t.set k y) k = y := by simp [slOf, List.getD, h]
theorem flatE_set : ∀ (t : List Sl) (k : Nat), k < t.length → ∀ (j : Nat) (u : Value) (y : Sl), slCells y = (slCells (slOf t k)).set j u → j < 8 → (t.flatMap slCells).set (k * 8 + j) u = (t.set k y).flatMap slCells
  | [], _, h, _, _, _, _, _ => by simp at h
  | a :: r, 0, _, j, u, y, e, hj => by
    have e2 : slOf (a :: r) 0 = a := by simp [slOf]
    rw [e2] at e
    rw [List.set_cons_zero, List.flatMap_cons, List.flatMap_cons, e, Nat.zero_mul, Nat.zero_add]
    rw [List.set_append_left _ _ (by simp [slCells]; omega)]
  | a :: r, k + 1, h, j, u, y, e, hj => by
    have e2 : slOf (a :: r) (k + 1) = slOf r k := by simp [slOf]
    rw [e2] at e
    rw [List.set_cons_succ, List.flatMap_cons, List.flatMap_cons, List.set_append_right _ _ (by simp [slCells]; omega)]
    rw [show (k + 1) * 8 + j - (slCells a).length = k * 8 + j from by simp [slCells]; omega, flatE_set r k (by simpa using h) j u y e hj]
section
variable {E : Nat} {w : World} {base g n cap : Nat} {t : List Sl}
theorem OwnE.in_ (ho : OwnE E w base (.slice (some ⟨g, 0, none⟩) n cap) t) (hl : t.length = n) {k : Nat} (hk : k < n) : SlIn w g (k * 8) (slOf t k) := by
  obtain ⟨ao, cap', e, r, -⟩ := ho.form
  cases e
  obtain ⟨b, off, e, -, h⟩ := r.at (i := k) (by omega)
  cases e
  rwa [Nat.zero_add] at h
theorem OwnE.field (ho : OwnE E w base (.slice (some ⟨g, 0, none⟩) n cap) t) (hl : t.length = n) {k : Nat} (hk : k < n) {j : Nat} (hj : j < 8) {u : Value} {y : Sl} (e : slCells y = (slCells (slOf t k)).set j u) :
    w.frozen? ⟨g, k * 8 + j, none⟩ = false ∧ OwnE E (w.setCell ⟨g, k * 8 + j, none⟩ u) base (.slice (some ⟨g, 0, none⟩) n cap) (t.set k y) ∧ Below base w (w.setCell ⟨g, k * 8 + j, none⟩ u) := by
  have hb := (ho.block g rfl).1
  unfold OwnE at ho ⊢
  rw [hl] at ho
  refine ⟨World.ownsRow.frozenAt ho _, ?_, (Below.refl _ _).setCell (by exact hb) _⟩
  have h := (World.ownsRow.stored ho (k * 8 + j) u).1
  rw [flatE_set t k (by omega) j u y e hj] at h
  rw [List.length_set, hl]
  exact h
theorem OwnE.store (ho : OwnE E w base (.slice (some ⟨g, 0, none⟩) n cap) t) (hl : t.length = n) {k : Nat} (hk : k < n) (x : Sl) :
    SlIn w g (k * 8) (slOf t k) ∧ (∀ j, w.frozen? ⟨g, j, none⟩ = false) ∧
      OwnE E (setSl w g (k * 8) x) base (.slice (some ⟨g, 0, none⟩) n cap) (t.set k x) ∧ Below base w (setSl w g (k * 8) x) := by
  have hin := ho.in_ hl hk
  have hkt : k < t.length := by omega
  generalize hz : slOf t k = z at hin ⊢

  obtain ⟨-, o0, b0⟩ := ho.field (j := 0) (u := .int .i64 x.mode) (y := ⟨x.mode, z.round, z.slot, ⟨z.desc.node, z.desc.kind, z.desc.size, z.desc.dur, z.desc.chg⟩⟩) hl hk (by omega) (by rw [hz]; rfl)
  obtain ⟨-, o1, b1⟩ := o0.field (j := 1) (u := .int .i64 x.round) (y := ⟨x.mode, x.round, z.slot, ⟨z.desc.node, z.desc.kind, z.desc.size, z.desc.dur, z.desc.chg⟩⟩) (by rw [List.length_set]; exact hl) hk (by omega) (by rw [slOf_set hkt]; rfl)
  rw [List.set_set] at o1
  obtain ⟨-, o2, b2⟩ := o1.field (j := 2) (u := .int .i64 x.slot) (y := ⟨x.mode, x.round, x.slot, ⟨z.desc.node, z.desc.kind, z.desc.size, z.desc.dur, z.desc.chg⟩⟩) (by rw [List.length_set]; exact hl) hk (by omega) (by rw [slOf_set hkt]; rfl)
  rw [List.set_set] at o2
  obtain ⟨-, o3, b3⟩ := o2.field (j := 3) (u := .int .i64 x.desc.node) (y := ⟨x.mode, x.round, x.slot, ⟨x.desc.node, z.desc.kind, z.desc.size, z.desc.dur, z.desc.chg⟩⟩) (by rw [List.length_set]; exact hl) hk (by omega) (by rw [slOf_set hkt]; rfl)
  rw [List.set_set] at o3
  obtain ⟨-, o4, b4⟩ := o3.field (j := 4) (u := .int .i64 x.desc.kind) (y := ⟨x.mode, x.round, x.slot, ⟨x.desc.node, x.desc.kind, z.desc.size, z.desc.dur, z.desc.chg⟩⟩) (by rw [List.length_set]; exact hl) hk (by omega) (by rw [slOf_set hkt]; rfl)
  rw [List.set_set] at o4
  obtain ⟨-, o5, b5⟩ := o4.field (j := 5) (u := .int .i64 x.desc.size) (y := ⟨x.mode, x.round, x.slot, ⟨x.desc.node, x.desc.kind, x.desc.size, z.desc.dur, z.desc.chg⟩⟩) (by rw [List.length_set]; exact hl) hk (by omega) (by rw [slOf_set hkt]; rfl)
  rw [List.set_set] at o5
  obtain ⟨-, o6, b6⟩ := o5.field (j := 6) (u := .int .i64 x.desc.dur) (y := ⟨x.mode, x.round, x.slot, ⟨x.desc.node, x.desc.kind, x.desc.size, x.desc.dur, z.desc.chg⟩⟩) (by rw [List.length_set]; exact hl) hk (by omega) (by rw [slOf_set hkt]; rfl)
  rw [List.set_set] at o6
  obtain ⟨-, o7, b7⟩ := o6.field (j := 7) (u := .bool x.desc.chg) (y := x) (by rw [List.length_set]; exact hl) hk (by omega) (by rw [slOf_set hkt]; rfl)
  rw [List.set_set] at o7
  have hfz : ∀ j, w.frozen? ⟨g, j, none⟩ = false := fun j => by unfold OwnE at ho; rw [hl] at ho; exact World.ownsRow.frozenAt ho j
  exact ⟨hin, hfz, o7, (((((((b0).trans b1).trans b2).trans b3).trans b4).trans b5).trans b6).trans b7⟩
end
section
variable {P : Program} {E T : Nat} (w : World) {ops : Array Oper} {rest : List Oper} {o : Oper} {a : Act} {Q : Exit → Act → World → Prop} {K : Act → World → Prop}
end
def itsE (E : Nat) (v : Value) (t : List Sl) : It := ⟨v, E, 8, t.length, t.flatMap slCells⟩
section
variable {w0 w w' : World} {L L1 L2 : List It} {E : Nat} {v : Value} {t : List Sl}
end
end

section
open Go.RowKit
structure Mv where
  id : Int
  n : List Nd
  no : Option Addr
  nc : Nat
  cs : List Mc
  mo : Option Addr
  mc : Nat
  e : List Sl
  eo : Option Addr
  ec : Nat
def Mv.zero : Mv := ⟨0, [], none, 0, [], none, 0, [], none, 0⟩
def Mv.me (v : Mv) : Me := ⟨v.id, v.n, mds v.cs, v.e⟩
def mvVal (v : Mv) : Value := .agg #[.int .i64 v.id, .slice v.no v.n.length v.nc, .slice v.mo v.cs.length v.mc, .slice v.eo v.e.length v.ec]
structure MvIn (w : World) (b : Nat) (v : Mv) : Prop where
  c0 : w.cell? ⟨b, 0, none⟩ = some (.int .i64 v.id)
  c1 : w.cell? ⟨b, 1, none⟩ = some (.slice v.no v.n.length v.nc)
  c2 : w.cell? ⟨b, 2, none⟩ = some (.slice v.mo v.cs.length v.mc)
  c3 : w.cell? ⟨b, 3, none⟩ = some (.slice v.eo v.e.length v.ec)
def MvAt (T : Nat) (w : World) (b : Nat) (v : Mv) : Prop := w.heap[b]? = some (.cells #[.int .i64 v.id, .slice v.no v.n.length v.nc, .slice v.mo v.cs.length v.mc, .slice v.eo v.e.length v.ec] T (0, 0))
structure RdMe (w : World) (v : Mv) : Prop where
  rn : RdN w v.no v.n.length v.n
  rm : RdM w v.mo v.cs.length v.cs
  re : RdE w v.eo v.e.length v.e
  nle : v.n.length ≤ v.nc
  ncap : v.nc ≤ 9223372036854775807
  mle : v.cs.length ≤ v.mc
  mcap : v.mc ≤ 9223372036854775807
  ele : v.e.length ≤ v.ec
  ecap : v.ec ≤ 9223372036854775807
  nl : v.n.length ≤ 1048576
  ml : v.cs.length ≤ 1048576
  el : v.e.length ≤ 1048576
  ns : smallN v.n
  ms : ∀ c ∈ v.cs, c.md.next.length ≤ 1048576
section
variable {w w' : World} {T b : Nat} {v : Mv}
theorem MvAt.in_ (h : MvAt T w b v) : MvIn w b v := ⟨cell_of_row w b 0 _ _ (0, 0) h, cell_of_row w b 1 _ _ (0, 0) h, cell_of_row w b 2 _ _ (0, 0) h, cell_of_row w b 3 _ _ (0, 0) h⟩
theorem MvAt.f (h : MvAt T w b v) (i : Nat) : w.frozen? ⟨b, i, none⟩ = false := frozen_of_row w b i _ _ h
theorem MvAt.lt (h : MvAt T w b v) : b < w.heap.size := (Array.getElem?_eq_some_iff.1 h).1
theorem MvAt.below {B : Nat} (h : MvAt T w b v) (hb : Below B w w') (hlt : b < B) : MvAt T w' b v := (hb.block b hlt).trans h
theorem MvAt.grown {g : Option Nat} (h : MvAt T w b v) (hg : w.grownBy w' g) (hne : some b ≠ g) : MvAt T w' b v := (hg.block b h.lt hne).trans h
theorem MvAt.new (w : World) : MvAt T (w.alloc (.cells #[.int .i64 v.id, .slice v.no v.n.length v.nc, .slice v.mo v.cs.length v.mc, .slice v.eo v.e.length v.ec] T)) w.heap.size v := heap_alloc_new w _
theorem MvAt.all (h : MvAt T w b v) : w.cell? ⟨b, 0, none⟩ = some (.int .i64 v.id) ∧ w.cell? ⟨b, 1, none⟩ = some (.slice v.no v.n.length v.nc) ∧ w.cell? ⟨b, 2, none⟩ = some (.slice v.mo v.cs.length v.mc) ∧ w.cell? ⟨b, 3, none⟩ = some (.slice v.eo v.e.length v.ec) :=
  ⟨h.in_.c0, h.in_.c1, h.in_.c2, h.in_.c3⟩
theorem RdMe.below (h : RdMe w v) (hb : Below w.heap.size w w') : RdMe w' v :=
  ⟨h.rn.below hb, h.rm.below hb, h.re.below hb, h.nle, h.ncap, h.mle, h.mcap, h.ele, h.ecap, h.nl, h.ml, h.el, h.ns, h.ms⟩
theorem RdM.take {ao : Option Addr} {n : Nat} {cs : List Mc} (h : RdM w ao n cs) {k : Nat} (hk : k ≤ n) : RdM w ao k (cs.take k) := by
  refine ⟨by rw [List.length_take, h.len]; omega, fun h0 => ?_, fun c hc => h.next c (List.mem_of_mem_take hc)⟩
  obtain ⟨b, off, e, hx⟩ := h.here (by omega)
  exact ⟨b, off, e, fun i hi => by rw [mcOf_take hi]; exact hx i (by omega)⟩
end
end

section
open Go.Joins Go.ChangeShapes Go.WideShapes Go.RowKit Go.Deep
def NdRow (w : World) (ao : Option Addr) (len cap : Nat) (t : List Nd) : Prop :=
  len ≤ cap ∧ cap ≤ maxLen ∧ RdN w ao len t ∧ ∀ i, i < len → (ndOf t i).name.size ≤ maxLen
section
variable {H : Type} {enc : TypeId × Value → H} {P : Program} {w : World} {base : Nat} {spare : Nat → Bool} {held : Bool}
end
end

section
open Go.Joins Go.ChangeShapes Go.WideShapes Go.RowKit Go.Deep
def MdRow (w : World) (ao : Option Addr) (len cap : Nat) (cs : List Mc) : Prop := len ≤ cap ∧ cap ≤ maxLen ∧ RdM w ao len cs
section
variable {H : Type} {enc : TypeId × Value → H} {P : Program} {w : World} {base : Nat} {spare : Nat → Bool} {held : Bool}
end
end

section
open Go.Joins Go.ChangeShapes Go.WideShapes Go.RowKit Go.Deep
def slWf (y : Sl) : Prop := (Lit.int .i64 y.mode).wf = true ∧ (Lit.int .i64 y.round).wf = true ∧ (Lit.int .i64 y.slot).wf = true ∧ (Lit.int .i64 y.desc.node).wf = true ∧ (Lit.int .i64 y.desc.kind).wf = true ∧ (Lit.int .i64 y.desc.size).wf = true ∧ (Lit.int .i64 y.desc.dur).wf = true
def SlRow (w : World) (ao : Option Addr) (len cap : Nat) (t : List Sl) : Prop :=
  len ≤ cap ∧ cap ≤ maxLen ∧ RdE w ao len t ∧ ∀ i, i < len → slWf (slOf t i)
section
variable {H : Type} {enc : TypeId × Value → H} {P : Program} {w : World} {base : Nat} {spare : Nat → Bool} {held : Bool}
end
end

section
open Go.Joins Go.ChangeShapes Go.WideShapes Go.RowKit Go.Deep
structure MeRow (w : World) (v : Mv) : Prop where
  id : (Lit.int .i64 v.id).wf = true
  n : NdRow w v.no v.n.length v.nc v.n
  m : MdRow w v.mo v.cs.length v.mc v.cs
  e : SlRow w v.eo v.e.length v.ec v.e
section
variable {H : Type} {enc : TypeId × Value → H} {P : Program} {w : World} {base : Nat} {spare : Nat → Bool} {held : Bool}
end
end

section
open Go.RowKit
def decStr (n : Nat) : ByteArray := ⟨(Lib.decDigits n).toArray⟩
theorem strOf_one (x : Nat) : strOfNums [(x : Int)] = ⟨#[UInt8.ofNat x]⟩ := by
  simp [strOfNums]
theorem decStr_small {n : Nat} (h : n < 10) : decStr n = strOfNums [48 + (n : Int)] := by
  have e : (48 + (n : Int)) = ((48 + n : Nat) : Int) := by omega
  rw [e, strOf_one]
  unfold decStr
  rw [Lib.decDigits, dif_pos h]
theorem decStr_big {n : Nat} (h : ¬ n < 10) : decStr n = decStr (n / 10) ++ strOfNums [48 + ((n % 10 : Nat) : Int)] := by
  have e : (48 + ((n % 10 : Nat) : Int)) = ((48 + n % 10 : Nat) : Int) := by omega
  rw [e, strOf_one]
  unfold decStr
  rw [Lib.decDigits, dif_neg h]
  apply ByteArray.ext
  simp
theorem decStr_size (n : Nat) (h : n < 18446744073709551616) : (decStr n).size ≤ 20 := by
  show (Lib.decDigits n).toArray.size ≤ 20
  rw [List.size_toArray, Lib.decDigits_length]
  exact Lib.nDigits_le20 n h
theorem conv_one (w : World) (x : Int) : (convert 53 9 (.slice (some ⟨w.heap.size, 0, none⟩) 1 1)).run Try.prog (w.alloc (.cells #[.int .u8 x] 5)) = .ok (.string (strOfNums [x])) (w.alloc (.cells #[.int .u8 x] 5)) :=
  run_convert_bytes_arg (w.alloc (.cells #[.int .u8 x] 5)) 53 5 Try.underlying53 Try.underlying5 w.heap.size 0 1 1 [x] rfl (fun i hi => by
    have : i = 0 := by omega
    subst this
    rw [World.cell?_alloc_at _ _ _ _ rfl]; rfl) 9 Try.underlying9
end
end Go.Proofs.Ytfoflfmpbbpbgaa
