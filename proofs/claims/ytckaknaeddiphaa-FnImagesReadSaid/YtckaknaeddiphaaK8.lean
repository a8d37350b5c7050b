/-
  Chapter 9: a block of the program: an array of 33 numbers and a size; its bytes as a list; bytes that are added.
-/
import Derived.Test.YtckaknaeddiphaaK3
import Derived.Test.YtckaknaeddiphaaVecs
import Derived.Laws.CopyOwn
import Derived.Deep.RegionLaw
namespace Go.Proofs.Ytckaknaeddiphaa
open Go.RowKit

/-- The 34 cells of a block that holds the bytes xs. -/
def blk (xs : List Int) : List Int := xs ++ (List.replicate (33 - xs.length) 0 ++ [(xs.length : Int)])
theorem blk_len {xs : List Int} (h : xs.length ≤ 33) : (blk xs).length = 34 := by unfold blk; simp; omega
theorem blk_at {xs : List Int} {i : Nat} (h : i < xs.length) : (blk xs).getD i 0 = xs.getD i 0 := by
  unfold blk
  simp [List.getD, List.getElem?_append_left h]
theorem blk_size {xs : List Int} (h : xs.length ≤ 33) : (blk xs).getD 33 0 = xs.length := by
  unfold blk
  simp only [List.getD]
  rw [List.getElem?_append_right h, List.getElem?_append_right (by simp)]
  simp
theorem blk_add {xs ys : List Int} (h : xs.length + ys.length ≤ 33) : (splice (blk xs) xs.length ys).set 33 ((xs.length + ys.length : Nat) : Int) = blk (xs ++ ys) := by
  have e : splice (blk xs) xs.length ys = (xs ++ ys) ++ (List.replicate (33 - (xs.length + ys.length)) 0 ++ [(xs.length : Int)]) := by
    unfold splice blk
    rw [List.take_left' rfl, List.append_assoc]
    congr 2
    rw [List.drop_append]
    rw [List.drop_eq_nil_of_le (by omega), List.nil_append, Nat.add_sub_cancel_left, List.drop_append, List.length_replicate, List.drop_replicate]
    rw [show ys.length - (33 - xs.length) = 0 from by omega, List.drop_zero]
    congr 2
    omega
  rw [e]
  unfold blk
  rw [List.length_append]
  rw [List.set_append_right _ _ (by rw [List.length_append]; exact h), List.set_append_right _ _ (by rw [List.length_replicate, List.length_append]; omega)]
  congr 2
  rw [List.length_append, List.length_replicate, show 33 - (xs.length + ys.length) - (33 - (xs.length + ys.length)) = 0 from by omega]
  rfl
/-- Block b holds the bytes xs. -/
def BlkAt (w : World) (b : Nat) (xs : List Int) : Prop := ArrAt 51 w b (blk xs)
section
variable {b : Nat} {w w' : World} {xs : List Int}
theorem BlkAt.lt (h : BlkAt w b xs) : b < w.heap.size := ArrAt.lt h
theorem BlkAt.below {B : Nat} (h : BlkAt w b xs) (hb : Below B w w') (hlt : b < B) : BlkAt w' b xs := ArrAt.below h hb hlt
theorem BlkAt.size (h : BlkAt w b xs) (hl : xs.length ≤ 33) : w.cell? ⟨b, 33, none⟩ = some (.int .i64 (xs.length : Int)) := by
  have h1 := ArrAt.cell h (i := 33) (by rw [blk_len hl]; omega)
  rwa [blk_size hl] at h1
theorem BlkAt.rd (h : BlkAt w b xs) (hl : xs.length ≤ 33) : Rd w (some ⟨b, 0, none⟩) xs.length xs :=
  ⟨rfl, fun _ => ⟨b, 0, rfl, fun i hi => by
    have h1 := ArrAt.cell h (i := i) (by rw [blk_len hl]; omega)
    rw [blk_at hi] at h1
    rw [Nat.zero_add]
    exact h1⟩⟩
end
theorem size64 : (Try.prog.info? 2).map (·.size) = some 1 := by kernel_rfl
set_option linter.unusedSimpArgs false in
/-- The block's bytes as a list. -/
theorem list_any (b : Nat) (xs : List Int) (w : World) (h : BlkAt w b xs) (hl : xs.length ≤ 33) : Calls Try.prog 36 #[.pointer (some ⟨b, 0, none⟩)] w fun e w' => e = .returned (.slice (some ⟨b, 0, none⟩) xs.length 33) ∧ w' = w.drew := by
  have hc := h.size hl
  generalize xs.length = n at hc hl ⊢
  have hle : (n : Int) ≤ 33 := by omega
  clear h
  go_enter Try.func36, Try.ntmps36
  go_upto_region 1 with fail
  refine wp_region_held_drew (S := fun w' => w'.cell? ⟨b, 33, none⟩ = some (.int .i64 (n : Int))) (by kernel_rfl) (hc) (fun hHeld => ?_)
  refine wpAnyH_take (i := 0) (v := ?_) rfl (by kernel_rfl) (by kernel_rfl) (by kernel_rfl) (fun _ _ _ h => h) (Or.inl ⟨by rfl, ?_⟩) (by assumption) ?_
  rotate_left
  · (intro w hSw; (try dsimp only at hSw); go_simp; (try with_reducible rfl))
  try simp only [List.getElem_toArray, List.getElem_cons_succ, List.getElem_cons_zero, Act.put, List.setIfInBounds_toArray, List.set_cons_zero, List.set_cons_succ]
  refine wpAnyH_take (i := 1) (v := ?_) rfl (by kernel_rfl) (by kernel_rfl) (by kernel_rfl) (fun _ _ _ h => h) (Or.inl ⟨by rfl, ?_⟩) (by assumption) ?_
  rotate_left
  · (intro w hSw; (try dsimp only at hSw); go_simp; (try with_reducible rfl))
  try simp only [List.getElem_toArray, List.getElem_cons_succ, List.getElem_cons_zero, Act.put, List.setIfInBounds_toArray, List.set_cons_zero, List.set_cons_succ]
  refine wpAnyH_take (i := 2) (v := ?_) rfl (by kernel_rfl) (by kernel_rfl) (by kernel_rfl) (fun _ _ _ h => h) (Or.inl ⟨by rfl, ?_⟩) (by assumption) ?_
  rotate_left
  · (intro w hSw; (try dsimp only at hSw); go_simp; (try with_reducible rfl))
  try simp only [List.getElem_toArray, List.getElem_cons_succ, List.getElem_cons_zero, Act.put, List.setIfInBounds_toArray, List.set_cons_zero, List.set_cons_succ]
  refine wpAnyH_take (i := 3) (v := ?_) rfl (by kernel_rfl) (by kernel_rfl) (by kernel_rfl) (fun _ _ _ h => h) (Or.inl ⟨by rfl, ?_⟩) (by assumption) ?_
  rotate_left
  · (intro w hSw; (try dsimp only at hSw); go_simp; (try with_reducible rfl))
  try simp only [List.getElem_toArray, List.getElem_cons_succ, List.getElem_cons_zero, Act.put, List.setIfInBounds_toArray, List.set_cons_zero, List.set_cons_succ]
  refine wpAnyH_take (i := 4) (v := ?_) rfl (by kernel_rfl) (by kernel_rfl) (by kernel_rfl) (fun _ _ _ h => h) (Or.inl ⟨by rfl, ?_⟩) (by assumption) ?_
  rotate_left
  · (intro w hSw; (try dsimp only at hSw); go_simp; (try with_reducible rfl))
  try simp only [List.getElem_toArray, List.getElem_cons_succ, List.getElem_cons_zero, Act.put, List.setIfInBounds_toArray, List.set_cons_zero, List.set_cons_succ]
  refine wpAnyH_take (i := 5) (v := ?_) rfl (by kernel_rfl) (by kernel_rfl) (by kernel_rfl) (fun _ _ _ h => h) (Or.inl ⟨by rfl, ?_⟩) (by assumption) ?_
  rotate_left
  · (intro w hSw; (try dsimp only at hSw); go_simp; (try with_reducible rfl))
  try simp only [List.getElem_toArray, List.getElem_cons_succ, List.getElem_cons_zero, Act.put, List.setIfInBounds_toArray, List.set_cons_zero, List.set_cons_succ]
  refine wpAnyH_take (i := 6) (v := ?_) rfl (by kernel_rfl) (by kernel_rfl) (by kernel_rfl) (fun _ _ _ h => h) (Or.inl ⟨by rfl, ?_⟩) (by assumption) ?_
  rotate_left
  · (intro w hSw; (try dsimp only at hSw); go_simp; (try with_reducible rfl))
  try simp only [List.getElem_toArray, List.getElem_cons_succ, List.getElem_cons_zero, Act.put, List.setIfInBounds_toArray, List.set_cons_zero, List.set_cons_succ]
  refine wpAnyH_take (i := 7) (v := ?_) rfl (by kernel_rfl) (by kernel_rfl) (by kernel_rfl) (fun _ _ _ h => h) (Or.inl ⟨by rfl, ?_⟩) (by assumption) ?_
  rotate_left
  · (intro w hSw; (try dsimp only at hSw); go_simp; (try with_reducible rfl))
  try simp only [List.getElem_toArray, List.getElem_cons_succ, List.getElem_cons_zero, Act.put, List.setIfInBounds_toArray, List.set_cons_zero, List.set_cons_succ]
  refine wpAnyH_take (i := 8) (v := ?_) rfl (by kernel_rfl) (by kernel_rfl) (by kernel_rfl) (fun _ _ _ h => h) (Or.inl ⟨by rfl, ?_⟩) (by assumption) ?_
  rotate_left
  · (intro w hSw; (try dsimp only at hSw); go_simp; (try with_reducible rfl))
  try simp only [List.getElem_toArray, List.getElem_cons_succ, List.getElem_cons_zero, Act.put, List.setIfInBounds_toArray, List.set_cons_zero, List.set_cons_succ]
  refine wpAnyH_done (by kernel_rfl) ?_ _
  go_wp2
  go_ret
  exact ⟨rfl, rfl⟩
set_option linter.unusedSimpArgs false in
set_option maxHeartbeats 1000000 in
set_option maxRecDepth 100000 in
theorem add_any (b : Nat) (xs : List Int) (ao : Option Addr) (cap : Nat) (ys : List Int) (w : World) (h : BlkAt w b xs) (hr : Rd w ao ys.length ys) (hfit : xs.length + ys.length ≤ 33) (hx : xs.length ≤ 32) :
    Calls Try.prog 59 #[.pointer (some ⟨b, 0, none⟩), .slice ao ys.length cap] w fun e w' => e = .returned (.tuple #[]) ∧ BlkAt w' b (xs ++ ys) ∧ Below b w w' := by
  have hc := h.size (by omega)
  have hf : w.frozen? ⟨b, 33, none⟩ = false := ArrAt.frozen h 33
  have hbl := blk_len (xs := xs) (by omega)
  have hadd := blk_add (xs := xs) (ys := ys) (by omega)
  obtain ⟨ZS, hZS⟩ : ∃ ZS, blk xs = ZS := ⟨_, rfl⟩
  have HZ := Lib.hid (show w.heap[b]? = some (.cells (ZS.map (Value.int .i64)).toArray 51 (0, 0)) from by rw [← hZS]; exact h)
  rw [hZS] at hadd hbl
  have HADD := Lib.hid hadd
  have HR := Lib.hid hr
  obtain ⟨n, hn⟩ : ∃ n, xs.length = n := ⟨_, rfl⟩
  rw [hn] at hc hfit hx HADD
  have HM : Hid ((ys.map (Value.int .i64)).length = Nat.min ys.length (33 - n)) := by show _ = _; rw [List.length_map]; exact (Nat.min_eq_left (by omega)).symm
  have HF : Hid (n + (ys.map (Value.int .i64)).length ≤ (ZS.map (Value.int .i64)).length) := by show _ ≤ _; rw [List.length_map, List.length_map, hbl]; omega
  have hle : (n : Int) ≤ 33 := by omega
  have hne : ¬ (33 = n) := by omega
  have hzs : ZS.getD 33 0 = (n : Int) := by rw [← hZS, ← hn]; exact blk_size (by omega)
  have hsl : (splice ZS n ys).length = 34 := by rw [length_splice _ _ _ (by rw [hbl]; omega), hbl]
  have hs33 : (splice ZS n ys).getD 33 0 = (n : Int) := by
    rw [← hzs]
    unfold splice
    simp only [List.getD]
    rw [List.getElem?_append_right (by rw [List.length_take]; omega), List.getElem?_append_right (by rw [List.length_take]; omega), List.getElem?_drop]
    congr 2
    rw [List.length_take]; omega
  have HMAP : Hid (∀ w4 : World, Hid (w4.heap[b]? = some (.cells (splice (ZS.map (Value.int .i64)) n (ys.map (Value.int .i64))).toArray 51 (0, 0))) → ArrAt 51 w4 b (splice ZS n ys)) := fun w4 h4 => by
    have h5 := h4.out
    unfold ArrAt cellsI
    rw [h5]
    simp [splice]
  have HC4 : Hid (∀ w4 : World, ArrAt 51 w4 b (splice ZS n ys) → w4.cell? ⟨b, 33, none⟩ = some (.int .i64 (n : Int))) := fun w4 h4 => by
    have h5 := h4.cell (i := 33) (by rw [hsl]; omega)
    rwa [hs33] at h5
  have HSRC : Hid (0 < (ys.map (Value.int .i64)).length → some (⟨b, n, none⟩ : Addr) = some ⟨b, n, none⟩ ∧ ∃ ad, ao = some ad ∧ ∀ (j : Nat) (v : Value), (ys.map (Value.int .i64))[j]? = some v → w.drew.cell? (ad.add j) = some v) := fun h0 => by
    rw [List.length_map] at h0
    obtain ⟨b', off, rfl, hat⟩ := HR.out.here h0
    refine ⟨rfl, _, rfl, fun j v hv => ?_⟩
    rw [List.getElem?_map, Option.map_eq_some_iff] at hv
    obtain ⟨y, hy, rfl⟩ := hv
    have hj : j < ys.length := (List.getElem?_eq_some_iff.1 hy).1
    rw [Addr.add_lit]
    have h5 := hat j hj
    change w.cell? _ = _
    rw [h5]
    simp [List.getD, hy]
  clear h hr hZS hbl hn hadd hzs hsl hs33 HR
  have hwr : IntKind.i64.wrap ((n : Int) + (ys.length : Int)) = (n : Int) + (ys.length : Int) := by rw [IntKind.wrap_i64]; omega
  have HL := Lib.hid (show (ys.map (Value.int .i64)).length = ys.length from List.length_map _)
  generalize ys.length = m at *
  go_enter Try.func59, Try.ntmps59
  go_upto_region 0 with fail
  go_region_law (refine step_copy_splice rfl (.tmp 15) (.tmp 16) 24 24 rfl 2 Try.underlying24 size64 _ _ _ _ _ _ rfl rfl b n (ZS.map (Value.int .i64)) 51 HZ.out (ys.map (Value.int .i64)) HM.out HSRC.out HF.out (ints_oneCell _ _) b w (Below.refl _ _).drew (Nat.le_refl _) ?_; intro w4 hg4 hb4; have A4 := Lib.hid (HMAP.out w4 hg4); have hc4 := HC4.out w4 A4.out; have hf4 := A4.out.frozen 33; have B4 := Lib.hid hb4; rw [HL.out]; clear hg4 hb4)
  all_goals
    refine bodyPost_end (v := .tuple #[]) (results_none rfl _ _ _) rfl ⟨rfl, ?_, B4.out.setCell (p := ⟨b, 33, none⟩) (Nat.le_refl _) _⟩
    have h6 := A4.out.store 33 ((n : Int) + (m : Int))
    rw [show (splice ZS n ys).set 33 ((n : Int) + (m : Int)) = blk (xs ++ ys) from by rw [← HADD.out]; push_cast; rfl] at h6
    exact h6
end Go.Proofs.Ytckaknaeddiphaa
