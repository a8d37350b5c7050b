/-
  Contracts of the program's, the model's and the laws' functions, and plain mathematics, on which a proof of this claim stands (part S).
-/
import Derived.Deep.RegionHeld3
import Derived.Deep.DeepCutAuto
import Derived.BigQuiet
import Derived.Handy
import Derived.Laws.Pointers
import Derived.Test.YtfoflfmpbbpbgaaPqA
namespace Go.Proofs.Ytfoflfmpbbpbgaa
section
section
open Go.RowKit
end
section
open Go.RowKit
structure TwoSl (W : World) (b1 b2 : Nat) (x y : Sl) : Prop where
  a : SlBk 39 W b1 x
  b : SlBk 39 W b2 y
theorem two_sl (w : World) (x y : Sl) : TwoSl ((w.alloc (.cells #[.int .i64 x.mode, .int .i64 x.round, .int .i64 x.slot, .int .i64 x.desc.node, .int .i64 x.desc.kind, .int .i64 x.desc.size, .int .i64 x.desc.dur, .bool x.desc.chg] 39)).alloc (.cells #[.int .i64 y.mode, .int .i64 y.round, .int .i64 y.slot, .int .i64 y.desc.node, .int .i64 y.desc.kind, .int .i64 y.desc.size, .int .i64 y.desc.dur, .bool y.desc.chg] 39)) w.heap.size (w.heap.size + 1) x y := by
  refine ⟨(SlBk.new w).below ((Below.refl _ _).alloc (Nat.le_refl _) _) (by simp), ?_⟩
  have h := SlBk.new (T := 39) (x := y) (w.alloc (.cells #[.int .i64 x.mode, .int .i64 x.round, .int .i64 x.slot, .int .i64 x.desc.node, .int .i64 x.desc.kind, .int .i64 x.desc.size, .int .i64 x.desc.dur, .bool x.desc.chg] 39))
  rw [World.size_alloc] at h
  exact h
end
section
open Go.RowKit
end
section
open Go.RowKit
theorem SlIn.all8 {w : World} {b off : Nat} {x : Sl} (h : SlIn w b off x) : w.cell? ⟨b, off, none⟩ = some (Value.int .i64 x.mode) ∧ w.cell? ⟨b, off + 1, none⟩ = some (Value.int .i64 x.round) ∧ w.cell? ⟨b, off + 2, none⟩ = some (Value.int .i64 x.slot) ∧ w.cell? ⟨b, off + 3, none⟩ = some (Value.int .i64 x.desc.node) ∧ w.cell? ⟨b, off + 4, none⟩ = some (Value.int .i64 x.desc.kind) ∧ w.cell? ⟨b, off + 5, none⟩ = some (Value.int .i64 x.desc.size) ∧ w.cell? ⟨b, off + 6, none⟩ = some (Value.int .i64 x.desc.dur) ∧ w.cell? ⟨b, off + 7, none⟩ = some (Value.bool x.desc.chg) := ⟨h.c0, h.c1, h.c2, h.c3, h.c4, h.c5, h.c6, h.c7⟩
theorem SlBk.all8 {w : World} {T b : Nat} {x : Sl} (h : SlBk T w b x) : w.cell? ⟨b, 0, none⟩ = some (Value.int .i64 x.mode) ∧ w.cell? ⟨b, 1, none⟩ = some (Value.int .i64 x.round) ∧ w.cell? ⟨b, 2, none⟩ = some (Value.int .i64 x.slot) ∧ w.cell? ⟨b, 3, none⟩ = some (Value.int .i64 x.desc.node) ∧ w.cell? ⟨b, 4, none⟩ = some (Value.int .i64 x.desc.kind) ∧ w.cell? ⟨b, 5, none⟩ = some (Value.int .i64 x.desc.size) ∧ w.cell? ⟨b, 6, none⟩ = some (Value.int .i64 x.desc.dur) ∧ w.cell? ⟨b, 7, none⟩ = some (Value.bool x.desc.chg) := by
  have := h.in_.all8
  simpa only [Nat.zero_add] using this
end
end

section
section
end
section
open Go.RowKit
end
section
open Go.RowKit
section
variable {w W W' : World} {T b p : Nat} {rest rest' : List Int} {x : Sl}
theorem SlBk.set0 (h : SlBk T w b x) (y : Int) : SlBk T (w.setCell ⟨b, 0, none⟩ (.int .i64 y)) b ⟨y, x.round, x.slot, ⟨x.desc.node, x.desc.kind, x.desc.size, x.desc.dur, x.desc.chg⟩⟩ := by
  have := heap_setCell_same w b 0 _ _ (.int .i64 y) h
  simpa [SlBk] using this
theorem SlBk.set1 (h : SlBk T w b x) (y : Int) : SlBk T (w.setCell ⟨b, 1, none⟩ (.int .i64 y)) b ⟨x.mode, y, x.slot, ⟨x.desc.node, x.desc.kind, x.desc.size, x.desc.dur, x.desc.chg⟩⟩ := by
  have := heap_setCell_same w b 1 _ _ (.int .i64 y) h
  simpa [SlBk] using this
theorem SlBk.set2 (h : SlBk T w b x) (y : Int) : SlBk T (w.setCell ⟨b, 2, none⟩ (.int .i64 y)) b ⟨x.mode, x.round, y, ⟨x.desc.node, x.desc.kind, x.desc.size, x.desc.dur, x.desc.chg⟩⟩ := by
  have := heap_setCell_same w b 2 _ _ (.int .i64 y) h
  simpa [SlBk] using this
theorem SlBk.set3 (h : SlBk T w b x) (y : Int) : SlBk T (w.setCell ⟨b, 3, none⟩ (.int .i64 y)) b ⟨x.mode, x.round, x.slot, ⟨y, x.desc.kind, x.desc.size, x.desc.dur, x.desc.chg⟩⟩ := by
  have := heap_setCell_same w b 3 _ _ (.int .i64 y) h
  simpa [SlBk] using this
theorem SlBk.set4 (h : SlBk T w b x) (y : Int) : SlBk T (w.setCell ⟨b, 4, none⟩ (.int .i64 y)) b ⟨x.mode, x.round, x.slot, ⟨x.desc.node, y, x.desc.size, x.desc.dur, x.desc.chg⟩⟩ := by
  have := heap_setCell_same w b 4 _ _ (.int .i64 y) h
  simpa [SlBk] using this
theorem SlBk.set5 (h : SlBk T w b x) (y : Int) : SlBk T (w.setCell ⟨b, 5, none⟩ (.int .i64 y)) b ⟨x.mode, x.round, x.slot, ⟨x.desc.node, x.desc.kind, y, x.desc.dur, x.desc.chg⟩⟩ := by
  have := heap_setCell_same w b 5 _ _ (.int .i64 y) h
  simpa [SlBk] using this
theorem SlBk.set6 (h : SlBk T w b x) (y : Int) : SlBk T (w.setCell ⟨b, 6, none⟩ (.int .i64 y)) b ⟨x.mode, x.round, x.slot, ⟨x.desc.node, x.desc.kind, x.desc.size, y, x.desc.chg⟩⟩ := by
  have := heap_setCell_same w b 6 _ _ (.int .i64 y) h
  simpa [SlBk] using this
theorem SlBk.set7 (h : SlBk T w b x) (y : Bool) : SlBk T (w.setCell ⟨b, 7, none⟩ (.bool y)) b ⟨x.mode, x.round, x.slot, ⟨x.desc.node, x.desc.kind, x.desc.size, x.desc.dur, y⟩⟩ := by
  have := heap_setCell_same w b 7 _ _ (.bool y) h
  simpa [SlBk] using this
theorem SlBk.put (h : SlBk T w b x) (y : Sl) : SlBk T (setSl w b 0 y) b y := by
  have := ((((((((h.set0 y.mode).set1 y.round).set2 y.slot).set3 y.desc.node).set4 y.desc.kind).set5 y.desc.size).set6 y.desc.dur).set7 y.desc.chg)
  exact this
end
end
section
open Go.RowKit
end
end

section
section
open Go.RowKit
def szL (t : List Sl) (m : Int) : Int := if m < t.length then -1 else m - t.length
set_option maxHeartbeats 1000000 in
set_option maxRecDepth 100000 in
theorem eqSlot_any (x : Sl) (w : World) : Calls Try.prog 20 #[slVal x, slVal x] w fun e w' => e = .returned (.bool true) ∧ Below w.heap.size w w' := by
  have HT := Lib.hid (two_sl w x x)
  have HB := Lib.hid (show Below w.heap.size w ((w.alloc (.cells #[.int .i64 x.mode, .int .i64 x.round, .int .i64 x.slot, .int .i64 x.desc.node, .int .i64 x.desc.kind, .int .i64 x.desc.size, .int .i64 x.desc.dur, .bool x.desc.chg] 39)).alloc (.cells #[.int .i64 x.mode, .int .i64 x.round, .int .i64 x.slot, .int .i64 x.desc.node, .int .i64 x.desc.kind, .int .i64 x.desc.size, .int .i64 x.desc.dur, .bool x.desc.chg] 39)) from below_two ((Below.refl _ _).alloc (Nat.le_refl _) _) ((Below.refl _ _).alloc (Nat.le_refl _) _))
  have HC := Lib.hid (fun W => eqDescriptor_any x.desc.node x.desc.kind x.desc.size x.desc.dur x.desc.chg W)
  unfold slVal
  go_enter Try.func20, Try.ntmps20
  go_upto_region 1 with fail
  generalize (w.alloc (.cells #[.int .i64 x.mode, .int .i64 x.round, .int .i64 x.slot, .int .i64 x.desc.node, .int .i64 x.desc.kind, .int .i64 x.desc.size, .int .i64 x.desc.dur, .bool x.desc.chg] 39)).alloc (.cells #[.int .i64 x.mode, .int .i64 x.round, .int .i64 x.slot, .int .i64 x.desc.node, .int .i64 x.desc.kind, .int .i64 x.desc.size, .int .i64 x.desc.dur, .bool x.desc.chg] 39) = w1 at HT HB ⊢
  obtain ⟨q0, q1, q2, q3, q4, q5, q6, q7⟩ := HT.out.a.all8
  obtain ⟨r0, r1, r2, r3, r4, r5, r6, r7⟩ := HT.out.b.all8
  have n0 : (x.mode != x.mode) = false := by simp
  have n1 : (x.round != x.round) = false := by simp
  have n2 : (x.slot != x.slot) = false := by simp
  go_wp2_with fail
  refine (HC.out _).mono ?_
  rintro e w2 ⟨rfl, b2⟩
  have HB2 := Lib.hid (below_two HB.out b2)
  clear b2 q0 q1 q2 q3 q4 q5 q6 q7 r0 r1 r2 r3 r4 r5 r6 r7
  go_wp2_with fail
  go_ret
  exact ⟨rfl, HB2.out⟩
set_option maxHeartbeats 1000000 in
set_option maxRecDepth 100000 in
set_option linter.unusedSimpArgs false in
theorem eqSlots_yes (ao bo : Option Addr) (n c d : Nat) (t : List Sl) (w : World) (hx : RdE w ao n t) (hy : RdE w bo n t) (hn : n ≤ 9223372036854775807) (hc : n ≤ c) (hd : n ≤ d) :
    Calls Try.prog 11 #[.slice ao n c, .slice bo n d] w fun e w' => e = .returned (.bool true) ∧ Below w.heap.size w w' := by
  have HX := Lib.hid hx; have HY := Lib.hid hy; clear hx hy
  have hne : ((n : Int) != (n : Int)) = false := by simp
  go_enter Try.func11, Try.ntmps11
  go_wp2_with fail
  clear hne
  go_loopw [5] (fun i wr => ∃ k : Nat, k ≤ n ∧ i = .int .i64 k ∧ Below w.heap.size w wr) (fun i _ => n - (intOf i).toNat)
  case atStart => exact ⟨0, Nat.zero_le _, rfl, Below.refl _ _⟩
  case round =>
    obtain ⟨k, hk, rfl, hb⟩ := hrel
    by_cases hlt : k < n
    · obtain ⟨g, off, rfl, hg, hx⟩ := HX.out.at hlt
      obtain ⟨g', off', rfl, hg', hy⟩ := HY.out.at hlt
      replace hx := hx.below hb hg
      replace hy := hy.below hb hg'
      have HB := Lib.hid hb; clear hb
      obtain ⟨x, hxe⟩ : ∃ x, x = slOf t k := ⟨_, rfl⟩
      rw [← hxe] at hx hy
      clear hxe
      have HXW := Lib.hid (fun W (hW : Below wr.heap.size wr W) => (hx.below hW hx.lt).all8)
      have HYW := Lib.hid (fun W (hW : Below wr.heap.size wr W) => (hy.below hW hy.lt).all8)
      have HD := Lib.hid (show Below wr.heap.size wr wr.drew from Below.drew (Below.refl _ _))
      clear hx hy hg hg'
      have HCALL := Lib.hid (fun W => eqSlot_any x W)
      unfold slVal at HCALL
      go_upto_region 6 with fail
      refine wp_region_held_drew (S := fun w' => (w'.cell? ⟨g, off + k * 8, none⟩ = some (Value.int .i64 x.mode) ∧ w'.cell? ⟨g, off + k * 8 + 1, none⟩ = some (Value.int .i64 x.round) ∧ w'.cell? ⟨g, off + k * 8 + 2, none⟩ = some (Value.int .i64 x.slot) ∧ w'.cell? ⟨g, off + k * 8 + 3, none⟩ = some (Value.int .i64 x.desc.node) ∧ w'.cell? ⟨g, off + k * 8 + 4, none⟩ = some (Value.int .i64 x.desc.kind) ∧ w'.cell? ⟨g, off + k * 8 + 5, none⟩ = some (Value.int .i64 x.desc.size) ∧ w'.cell? ⟨g, off + k * 8 + 6, none⟩ = some (Value.int .i64 x.desc.dur) ∧ w'.cell? ⟨g, off + k * 8 + 7, none⟩ = some (Value.bool x.desc.chg)) ∧ (w'.cell? ⟨g', off' + k * 8, none⟩ = some (Value.int .i64 x.mode) ∧ w'.cell? ⟨g', off' + k * 8 + 1, none⟩ = some (Value.int .i64 x.round) ∧ w'.cell? ⟨g', off' + k * 8 + 2, none⟩ = some (Value.int .i64 x.slot) ∧ w'.cell? ⟨g', off' + k * 8 + 3, none⟩ = some (Value.int .i64 x.desc.node) ∧ w'.cell? ⟨g', off' + k * 8 + 4, none⟩ = some (Value.int .i64 x.desc.kind) ∧ w'.cell? ⟨g', off' + k * 8 + 5, none⟩ = some (Value.int .i64 x.desc.size) ∧ w'.cell? ⟨g', off' + k * 8 + 6, none⟩ = some (Value.int .i64 x.desc.dur) ∧ w'.cell? ⟨g', off' + k * 8 + 7, none⟩ = some (Value.bool x.desc.chg))) (by kernel_rfl) (⟨HXW.out _ HD.out, HYW.out _ HD.out⟩) (fun hHeld => ?_)
      generalize wr.drew = w1 at HD hHeld ⊢
      refine wpAnyH_take (i := 0) (v := ?_) rfl (by kernel_rfl) (by kernel_rfl) (by kernel_rfl) (fun _ _ _ h => h) (Or.inl ⟨by rfl, ?_⟩) (by assumption) ?_
      rotate_left
      · (intro w hSw; (try dsimp only at hSw); go_simp; (try with_reducible rfl))
      try simp only [List.getElem_toArray, List.getElem_cons_succ, List.getElem_cons_zero, Act.put, List.setIfInBounds_toArray, List.set_cons_zero, List.set_cons_succ]
      refine wpAnyH_take (i := 1) (v := ?_) rfl (by kernel_rfl) (by kernel_rfl) (by kernel_rfl) (fun _ _ _ h => h) (Or.inl ⟨by rfl, ?_⟩) (by assumption) ?_
      rotate_left
      · (intro w hSw; (try dsimp only at hSw); go_simp; (try with_reducible rfl))
      try simp only [List.getElem_toArray, List.getElem_cons_succ, List.getElem_cons_zero, Act.put, List.setIfInBounds_toArray, List.set_cons_zero, List.set_cons_succ]
      refine wpAnyH_take (i := 2) (v := ?_) rfl (by kernel_rfl) (by kernel_rfl) (by kernel_rfl) (fun _ _ _ h => h) (Or.inl ⟨by rfl, ?_⟩) (by assumption) ?_
      rotate_left
      · (intro w hSw; (try dsimp only at hSw); go_simp; (try with_reducible rfl))
      try simp only [List.getElem_toArray, List.getElem_cons_succ, List.getElem_cons_zero, Act.put, List.setIfInBounds_toArray, List.set_cons_zero, List.set_cons_succ]
      refine wpAnyH_take (i := 3) (v := ?_) rfl (by kernel_rfl) (by kernel_rfl) (by kernel_rfl) (fun _ _ _ h => h) (Or.inl ⟨by rfl, ?_⟩) (by assumption) ?_
      rotate_left
      · (intro w hSw; (try dsimp only at hSw); go_simp; (try with_reducible rfl))
      try simp only [List.getElem_toArray, List.getElem_cons_succ, List.getElem_cons_zero, Act.put, List.setIfInBounds_toArray, List.set_cons_zero, List.set_cons_succ]
      refine wpAnyH_take (i := 4) (v := ?_) rfl (by kernel_rfl) (by kernel_rfl) (by kernel_rfl) (fun _ _ _ h => h) (Or.inl ⟨by rfl, ?_⟩) (by assumption) ?_
      rotate_left
      · (intro w hSw; (try dsimp only at hSw); go_simp; (try with_reducible rfl))
      try simp only [List.getElem_toArray, List.getElem_cons_succ, List.getElem_cons_zero, Act.put, List.setIfInBounds_toArray, List.set_cons_zero, List.set_cons_succ]
      refine wpAnyH_take (i := 5) (v := ?_) rfl (by kernel_rfl) (by kernel_rfl) (by kernel_rfl) (fun _ _ _ h => h) (Or.inl ⟨by rfl, ?_⟩) (by assumption) ?_
      rotate_left
      · (intro w hSw; (try dsimp only at hSw); go_simp; (try with_reducible rfl))
      try simp only [List.getElem_toArray, List.getElem_cons_succ, List.getElem_cons_zero, Act.put, List.setIfInBounds_toArray, List.set_cons_zero, List.set_cons_succ]
      refine wpAnyH_take (i := 6) (v := ?_) rfl (by kernel_rfl) (by kernel_rfl) (by kernel_rfl) (fun _ _ _ h => h) (Or.inl ⟨by rfl, ?_⟩) (by assumption) ?_
      rotate_left
      · (intro w hSw; (try dsimp only at hSw); go_simp; (try with_reducible rfl))
      try simp only [List.getElem_toArray, List.getElem_cons_succ, List.getElem_cons_zero, Act.put, List.setIfInBounds_toArray, List.set_cons_zero, List.set_cons_succ]
      refine wpAnyH_take (i := 7) (v := ?_) rfl (by kernel_rfl) (by kernel_rfl) (by kernel_rfl) (fun _ _ _ h => h) (Or.inl ⟨by rfl, ?_⟩) (by assumption) ?_
      rotate_left
      · (intro w hSw; (try dsimp only at hSw); go_simp; (try with_reducible rfl))
      try simp only [List.getElem_toArray, List.getElem_cons_succ, List.getElem_cons_zero, Act.put, List.setIfInBounds_toArray, List.set_cons_zero, List.set_cons_succ]
      refine wpAnyH_ready (rs := [8]) (by kernel_rfl) (by simp) (AllReadyH.cons rfl (fun K hK => ?_) AllReadyH.nil)
      go_simp
      refine (HCALL.out _).mono ?_
      rintro e w2 ⟨rfl, b2⟩
      have HD2 := Lib.hid (below_two HD.out b2); clear b2
      go_wp2_with fail
      refine hK.out _ _ ?_ (fun hHeld => ?_)
      · exact ⟨HXW.out _ HD2.out, HYW.out _ HD2.out⟩
      clear hK K
      try simp only [List.getElem_toArray, List.getElem_cons_succ, List.getElem_cons_zero, Act.put, List.setIfInBounds_toArray, List.set_cons_zero, List.set_cons_succ]
      refine wpAnyH_take (i := 9) (v := ?_) rfl (by kernel_rfl) (by kernel_rfl) (by kernel_rfl) (fun _ _ _ h => h) (Or.inl ⟨by rfl, ?_⟩) (by assumption) ?_
      rotate_left
      · (intro w hSw; (try dsimp only at hSw); go_simp; (try with_reducible rfl))
      try simp only [List.getElem_toArray, List.getElem_cons_succ, List.getElem_cons_zero, Act.put, List.setIfInBounds_toArray, List.set_cons_zero, List.set_cons_succ]
      refine wpAnyH_done (by kernel_rfl) ?_ _
      have HBE := Lib.hid (below_two HB.out HD2.out)
      go_wp2_with fail
      go_roundw
      case rel => exact ⟨k + 1, by omega, by go_num, HBE.out⟩
      case measure => simp [intOf]; omega
    · have hkn : k = n := by omega
      subst hkn
      have HB := Lib.hid hb; clear hb
      go_wp2_with fail
      go_ret
      exact ⟨rfl, HB.out⟩
def mkS (q : Int) (k : Nat) : Sl := ⟨q + 8 * k, q + 8 * k + 1, q + 8 * k + 2, ⟨q + 8 * k + 3, q + 8 * k + 4, q + 8 * k + 5, q + 8 * k + 6, (q + 8 * k + 7) % 3 == 0⟩⟩
def marksS (q : Int) (n : Nat) : List Sl := (List.range n).map (mkS q)
theorem marksS_len (q : Int) (n : Nat) : (marksS q n).length = n := by simp [marksS]
theorem marksS_at {q : Int} {n k : Nat} (h : k < n) : slOf (marksS q n) k = mkS q k := by
  rw [slOf_get (by rw [marksS_len]; exact h)]
  simp [marksS]
def markToS (q : Int) (t : List Sl) (k : Nat) : List Sl := marksS q k ++ t.drop k
theorem markToS_zero (q : Int) (t : List Sl) : markToS q t 0 = t := by simp [markToS, marksS]
theorem markToS_all (q : Int) (t : List Sl) : markToS q t t.length = marksS q t.length := by simp [markToS]
theorem markToS_len (q : Int) (t : List Sl) (k : Nat) (h : k ≤ t.length) : (markToS q t k).length = t.length := by
  unfold markToS; rw [List.length_append, marksS_len, List.length_drop]; omega
theorem markToS_succ (q : Int) (t : List Sl) (k : Nat) (h : k < t.length) : (markToS q t k).set k (mkS q k) = markToS q t (k + 1) := by
  unfold markToS
  rw [List.set_append_right _ _ (by rw [marksS_len]; exact Nat.le_refl _), marksS_len, Nat.sub_self, List.drop_eq_getElem_cons h, List.set_cons_zero]
  rw [show marksS q (k + 1) = marksS q k ++ [mkS q k] from by simp [marksS, List.range_succ]]
  simp
theorem mkS_eq {q : Int} {k K : Nat} (h : q + 8 * (k : Int) = (K : Int)) : mkS q k = ⟨(K : Int), (K : Int) + 1, (K : Int) + 1 + 1, ⟨(K : Int) + 1 + 1 + 1, (K : Int) + 1 + 1 + 1 + 1, (K : Int) + 1 + 1 + 1 + 1 + 1, (K : Int) + 1 + 1 + 1 + 1 + 1 + 1, ((K : Int) + 1 + 1 + 1 + 1 + 1 + 1 + 1) % 3 == 0⟩⟩ := by
  unfold mkS
  rw [h, show (K : Int) + 2 = (K : Int) + 1 + 1 from by omega, show (K : Int) + 3 = (K : Int) + 1 + 1 + 1 from by omega, show (K : Int) + 4 = (K : Int) + 1 + 1 + 1 + 1 from by omega, show (K : Int) + 5 = (K : Int) + 1 + 1 + 1 + 1 + 1 from by omega, show (K : Int) + 6 = (K : Int) + 1 + 1 + 1 + 1 + 1 + 1 from by omega, show (K : Int) + 7 = (K : Int) + 1 + 1 + 1 + 1 + 1 + 1 + 1 from by omega]
theorem grown_setSl (w : World) (g off : Nat) (x : Sl) : w.grownBy (setSl w g off x) (some g) := by
  unfold setSl
  exact grown_trans (grown_trans (grown_trans (grown_trans (grown_trans (grown_trans (grown_trans (grown_set w g off _) (grown_set _ g _ _)) (grown_set _ g _ _)) (grown_set _ g _ _)) (grown_set _ g _ _)) (grown_set _ g _ _)) (grown_set _ g _ _)) (grown_set _ g _ _)
set_option maxHeartbeats 4000000 in
set_option maxRecDepth 100000 in
theorem markSlots_row (g n cap base : Nat) (t : List Sl) (q : Int) (w : World) (hl : t.length = n) (ho : OwnE 39 w base (.slice (some ⟨g, 0, none⟩) n cap) t) (hn : n ≤ 4194304) (hq0 : 1 ≤ q) (hq1 : q ≤ 16777216) :
    Calls Try.prog 14 #[.slice (some ⟨g, 0, none⟩) n cap, .int .i64 q] w fun e w' => e = .returned (.int .i64 (q + 8 * n)) ∧ OwnE 39 w' base (.slice (some ⟨g, 0, none⟩) n cap) (marksS q n) ∧ w.grownBy w' (some g) := by
  have HL := Lib.hid hl
  have ho' : OwnE 39 w base (.slice (some ⟨g, 0, none⟩) n cap) (markToS q t 0) := by rw [markToS_zero]; exact ho
  have HO := Lib.hid ho'; clear ho ho'
  go_enter Try.func14, Try.ntmps14
  go_wp2_with fail
  go_loopw [1, 5] (fun v i wr => ∃ k : Nat, k ≤ n ∧ i = .int .i64 k ∧ v = .int .i64 (q + 8 * k) ∧ Hid (OwnE 39 wr base (.slice (some ⟨g, 0, none⟩) n cap) (markToS q t k)) ∧ Hid (w.grownBy wr (some g))) (fun _ i _ => n - (intOf i).toNat)
  case atStart => exact ⟨0, Nat.zero_le _, rfl, by simp, HO.out, World.grownBy.refl _ _⟩
  case round =>
    clear HO
    obtain ⟨k, hk, rfl, rfl, ho, HG⟩ := hrel
    by_cases hlt : k < n
    · have hkt : k < t.length := by rw [HL.out]; exact hlt
      obtain ⟨K, hK⟩ : ∃ K : Nat, K = (q + 8 * k).toNat := ⟨_, rfl⟩
      have hKi : q + 8 * (k : Int) = (K : Int) := by omega
      have hK0 : 0 < K := by omega
      have hK1 : K ≤ 67108864 := by omega
      have HNEXT := Lib.hid (show q + 8 * ((k + 1 : Nat) : Int) = (K : Int) + 1 + 1 + 1 + 1 + 1 + 1 + 1 + 1 from by omega)
      obtain ⟨hin, hfz, hst, -⟩ := ho.out.store ((markToS_len q t k (by omega)).trans HL.out) hlt (mkS q k)
      rw [markToS_succ q t k hkt, mkS_eq hKi] at hst
      have HST := Lib.hid hst
      have HG2 := Lib.hid (grown_trans HG.out (grown_setSl wr g (k * 8) ⟨(K : Int), (K : Int) + 1, (K : Int) + 1 + 1, ⟨(K : Int) + 1 + 1 + 1, (K : Int) + 1 + 1 + 1 + 1, (K : Int) + 1 + 1 + 1 + 1 + 1, (K : Int) + 1 + 1 + 1 + 1 + 1 + 1, ((K : Int) + 1 + 1 + 1 + 1 + 1 + 1 + 1) % 3 == 0⟩⟩))
      rw [hKi]
      generalize slOf (markToS q t k) k = z at hin
      obtain ⟨z0, z1, z2, z3, z4, z5, z6, z7⟩ := hin
      clear hst hK hKi hkt ho HG
      go_wp2_with fail
      clear z0 z1 z2 z3 z4 z5 z6 z7 hfz
      go_roundw
      case rel => exact ⟨k + 1, by omega, by go_num, by rw [HNEXT.out], HST, HG2⟩
      case measure => simp [intOf]; omega
    · have hkn : k = n := by omega
      subst hkn
      go_wp2_with fail
      go_ret
      exact ⟨rfl, by have h := ho.out; rw [← HL.out, markToS_all] at h; rw [HL.out] at h; exact h, HG.out⟩
theorem markSlots_any (ao : Option Addr) (n cap base : Nat) (t : List Sl) (q : Int) (w : World) (hl : t.length = n) (ho : OwnE 39 w base (.slice ao n cap) t) (hn : n ≤ 4194304) (hq0 : 1 ≤ q) (hq1 : q ≤ 16777216) :
    Calls Try.prog 14 #[.slice ao n cap, .int .i64 q] w fun e w' => e = .returned (.int .i64 (q + 8 * n)) ∧ OwnE 39 w' base (.slice ao n cap) (marksS q n) ∧ w.grownBy w' (Value.ownBlock (.slice ao n cap)) := by
  obtain ⟨ao', cap', e, -, -, -, hcase⟩ := ho.form
  rw [hl] at e
  cases e
  rcases hcase with hnil | ⟨g, rfl, -, -⟩
  · simp only [Value.slice.injEq] at hnil
    obtain ⟨rfl, rfl, rfl⟩ := hnil
    clear ho
    go_enter Try.func14, Try.ntmps14
    go_wp2
    refine wp_loop_rounds 1 ?_
    rw [rounds_succ]
    go_wp2
    go_ret
    exact ⟨ret_int (by simp), OwnE.nil_, World.grownBy.refl _ _⟩
  · exact markSlots_row g n cap base t q w hl ho hn hq0 hq1
set_option maxHeartbeats 4000000 in
set_option maxRecDepth 100000 in
theorem heldSlots_yes (ao : Option Addr) (n cap : Nat) (q : Int) (w : World) (hr : RdE w ao n (marksS q n)) (hn : n ≤ 4194304) (hq0 : 1 ≤ q) (hq1 : q ≤ 16777216) :
    Calls Try.prog 17 #[.slice ao n cap, .int .i64 q] w fun e w' => e = .returned (.int .i64 (q + 8 * n)) ∧ Below w.heap.size w w' := by
  have HR := Lib.hid hr; clear hr
  go_enter Try.func17, Try.ntmps17
  go_wp2_with fail
  go_loopw [1, 5] (fun v i wr => ∃ k : Nat, k ≤ n ∧ i = .int .i64 k ∧ v = .int .i64 (q + 8 * k) ∧ Hid (Below w.heap.size w wr)) (fun _ i _ => n - (intOf i).toNat)
  case atStart => exact ⟨0, Nat.zero_le _, rfl, by simp, Below.refl _ _⟩
  case round =>
    obtain ⟨k, hk, rfl, rfl, HB⟩ := hrel
    by_cases hlt : k < n
    · obtain ⟨g, off, rfl, hg, hx⟩ := HR.out.at hlt
      rw [marksS_at hlt] at hx
      replace hx := hx.below HB.out hg
      obtain ⟨K, hK⟩ : ∃ K : Nat, K = (q + 8 * k).toNat := ⟨_, rfl⟩
      have hKi : q + 8 * (k : Int) = (K : Int) := by omega
      have hK0 : 0 < K := by omega
      have hK1 : K ≤ 67108864 := by omega
      have HNEXT := Lib.hid (show q + 8 * ((k + 1 : Nat) : Int) = (K : Int) + 1 + 1 + 1 + 1 + 1 + 1 + 1 + 1 from by omega)
      rw [mkS_eq hKi] at hx
      rw [hKi]
      obtain ⟨h0, h1, h2, h3, h4, h5, h6, h7⟩ := hx
      clear hK hKi hg
      have n0 : ((K : Int) != (K : Int)) = false := by simp
      go_wp2_with fail
      clear h0 h1 h2 h3 h4 h5 h6 h7 n0
      go_roundw
      case rel => exact ⟨k + 1, by omega, by go_num, by rw [HNEXT.out], HB⟩
      case measure => simp [intOf]; omega
    · have hkn : k = n := by omega
      subst hkn
      go_wp2_with fail
      go_ret
      exact ⟨rfl, HB.out⟩
end
section
open Go
end
section
open Go.RowKit
end
end
end Go.Proofs.Ytfoflfmpbbpbgaa
