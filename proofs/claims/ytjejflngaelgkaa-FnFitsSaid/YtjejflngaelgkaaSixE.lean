/-
  Chapter 6: readBody, and what stands in memory while a frame is read.
  Chapter 6: readBody as a whole.
  Chapter 6: FrameFromBody of the program.
-/
import Derived.Test.YtjejflngaelgkaaSixD
import Derived.Deep.RegionHeld3
namespace Go.Proofs.Ytjejflngaelgkaa
section
open Go.RowKit

/-- While a frame is read: the block of the result, still the zero value; the frame so far in the next block; its data a slice of the call's own. -/
structure ReadSt (w wi : World) (a q t m r s k : Int) (v : Value) (xs : List Int) : Prop where
  res : FrameAt 41 wi w.heap.size 0 0 0 0 0 0 0 (.slice none 0 0)
  var : FrameAt 41 wi (w.heap.size + 1) a q t m r s k v
  below : Below w.heap.size w wi
  own : Own 2 wi (w.heap.size + 1 + 1) v xs
section
variable {w wi wj : World} {a q t m r s k : Int} {v : Value} {xs : List Int}
theorem ReadSt.call (h : ReadSt w wi a q t m r s k v xs) (b : Below wi.heap.size wi wj) : ReadSt w wj a q t m r s k v xs := ⟨h.res.below b h.res.lt, h.var.below b h.var.lt, below_two h.below b, h.own.below b⟩
theorem ReadSt.size (h : ReadSt w wi a q t m r s k v xs) : w.heap.size + 1 + 1 ≤ wi.heap.size := h.var.lt
theorem ReadSt.le (h : ReadSt w wi a q t m r s k v xs) : w.heap.size ≤ wi.heap.size := by have := h.size; omega
/-- A step that leaves alone all up to the two blocks, ahead of the data. -/
theorem ReadSt.app (h : ReadSt w wi a q t m r s k (.slice none 0 0) []) (b : Below (w.heap.size + 1 + 1) wi wj) : ReadSt w wj a q t m r s k (.slice none 0 0) [] :=
  ⟨h.res.below b (by omega), h.var.below b (by omega), h.below.trans (b.mono (by omega)), Own.nil_⟩
theorem ReadSt.five (h : ReadSt w wi a q t m r s k v xs) (t' m' r' s' k' : Int) : ReadSt w (setFiveAt wi (w.heap.size + 1) 2 t' m' r' s' k') a q t' m' r' s' k' v xs :=
  ⟨h.res.otherFive (by omega) 2 t' m' r' s' k', h.var.fiveAt t' m' r' s' k', h.below.trans (below_fiveAt (by omega) t' m' r' s' k'), h.own.awayFive (by omega) 2 t' m' r' s' k'⟩
theorem ReadSt.data {v' : Value} {xs' : List Int} (h : ReadSt w wi a q t m r s k v xs) (o : Own 2 wi (w.heap.size + 1 + 1) v' xs') : ReadSt w (wi.setCell ⟨w.heap.size + 1, 7, none⟩ v') a q t m r s k v' xs' :=
  ⟨h.res.other (by omega), h.var.set7 v', h.below.trans ((Below.refl w.heap.size wi).setCell (p := ⟨w.heap.size + 1, 7, none⟩) (by simp) v'), o.away (by omega) 7 v'⟩
/-- The result is stored. -/
theorem ReadSt.fin (h : ReadSt w wi a q t m r s k v xs) (a' q' t' m' r' s' k' : Int) (v' : Value) : FrameAt 41 (setEight wi w.heap.size a' q' t' m' r' s' k' v') w.heap.size a' q' t' m' r' s' k' v' ∧ Below w.heap.size w (setEight wi w.heap.size a' q' t' m' r' s' k' v') ∧ Own 2 (setEight wi w.heap.size a' q' t' m' r' s' k' v') w.heap.size v xs :=
  ⟨h.res.eight a' q' t' m' r' s' k' v', h.below.trans (below_eight (Nat.le_refl _) a' q' t' m' r' s' k' v'), (h.own.awayEight (by omega) a' q' t' m' r' s' k' v').more (by omega)⟩
end
theorem ReadSt.start (w : World) (n : Nat) (a q : Int) : ReadSt w (((w.alloc (.cells #[.int .i64 0, .int .i64 0, .int .i64 0, .int .i64 0, .int .i64 0, .int .i64 0, .int .i64 0, .slice none 0 0] 41)).drewN n).alloc (.cells #[.int .i64 a, .int .i64 q, .int .i64 0, .int .i64 0, .int .i64 0, .int .i64 0, .int .i64 0, .slice none 0 0] 41)) a q 0 0 0 0 0 (.slice none 0 0) [] := by
  have e1 : ((w.alloc (.cells #[.int .i64 0, .int .i64 0, .int .i64 0, .int .i64 0, .int .i64 0, .int .i64 0, .int .i64 0, .slice none 0 0] 41)).drewN n).heap.size = w.heap.size + 1 := by simp [World.drewN]
  have r0 : FrameAt 41 ((w.alloc (.cells #[.int .i64 0, .int .i64 0, .int .i64 0, .int .i64 0, .int .i64 0, .int .i64 0, .int .i64 0, .slice none 0 0] 41)).drewN n) w.heap.size 0 0 0 0 0 0 0 (.slice none 0 0) := FrameAt.new w
  have b1 : Below ((w.alloc (.cells #[.int .i64 0, .int .i64 0, .int .i64 0, .int .i64 0, .int .i64 0, .int .i64 0, .int .i64 0, .slice none 0 0] 41)).drewN n).heap.size ((w.alloc (.cells #[.int .i64 0, .int .i64 0, .int .i64 0, .int .i64 0, .int .i64 0, .int .i64 0, .int .i64 0, .slice none 0 0] 41)).drewN n) (((w.alloc (.cells #[.int .i64 0, .int .i64 0, .int .i64 0, .int .i64 0, .int .i64 0, .int .i64 0, .int .i64 0, .slice none 0 0] 41)).drewN n).alloc (.cells #[.int .i64 a, .int .i64 q, .int .i64 0, .int .i64 0, .int .i64 0, .int .i64 0, .int .i64 0, .slice none 0 0] 41)) := (Below.refl _ _).alloc (Nat.le_refl _) _
  have v0 : FrameAt 41 (((w.alloc (.cells #[.int .i64 0, .int .i64 0, .int .i64 0, .int .i64 0, .int .i64 0, .int .i64 0, .int .i64 0, .slice none 0 0] 41)).drewN n).alloc (.cells #[.int .i64 a, .int .i64 q, .int .i64 0, .int .i64 0, .int .i64 0, .int .i64 0, .int .i64 0, .slice none 0 0] 41)) ((w.alloc (.cells #[.int .i64 0, .int .i64 0, .int .i64 0, .int .i64 0, .int .i64 0, .int .i64 0, .int .i64 0, .slice none 0 0] 41)).drewN n).heap.size a q 0 0 0 0 0 (.slice none 0 0) := FrameAt.new _
  rw [e1] at v0
  exact ⟨r0.below b1 r0.lt, v0, (below_drewN' ((Below.refl _ _).alloc (Nat.le_refl _) _) n).trans (b1.mono (by rw [e1]; omega)), Own.nil_⟩
theorem head_and (h : Int) : bits .and .i64 (h / 8) 7 = h / 8 % 8 := by
  have h2 : (BitVec.ofInt 64 7).toNat = 2 ^ 3 - 1 := by decide
  have key : (BitVec.ofInt 64 (h / 8) &&& BitVec.ofInt 64 7).toNat = ((h / 8) % ((2 ^ 64 : Nat) : Int)).toNat % 2 ^ 3 := by
    rw [BitVec.toNat_and, BitVec.toNat_ofInt, h2, Nat.and_two_pow_sub_one_eq_mod]
  show IntKind.i64.wrap ((BitVec.ofInt 64 (h / 8) &&& BitVec.ofInt 64 7).toNat : Nat) = h / 8 % 8
  rw [key, IntKind.wrap_i64]
  omega

end

section
open Go.RowKit

theorem rd_part {w : World} {b off f l : Nat} {ys : List Int} (h : Rd w (Option.map (fun x => x.add f) (some (⟨b, off, none⟩ : Addr))) l ys) : Rd w (some ⟨b, off + f, none⟩) l ys := by simpa [Addr.add_lit] using h
theorem rd_empty {w : World} {ao : Option Addr} : Rd w ao 0 [] := ⟨rfl, fun h => absurd h (by omega)⟩
theorem rf_nil {xs : List Int} (h : xs.length = 0) : readFrame xs = none := by unfold readFrame; rw [if_pos h]
theorem rf_short {xs : List Int} (h0 : xs.length ≠ 0) (hx : hasState (xs.getD 0 0 / 64) = true) (h : xs.length < 9) : readFrame xs = none := by unfold readFrame; rw [if_neg h0, if_pos hx, if_pos h]
theorem rf_11n {xs : List Int} (hx : hasState (xs.getD 0 0 / 64) = true) (hy : hasData (xs.getD 0 0 / 64) = true) (h : xs.length = 9) : readFrame xs = none := by unfold readFrame; rw [if_neg (by omega), if_pos hx, if_neg (by omega), if_pos hy, if_pos (by omega)]
theorem rf_11 {xs : List Int} (hx : hasState (xs.getD 0 0 / 64) = true) (hy : hasData (xs.getD 0 0 / 64) = true) (h : 10 ≤ xs.length) : readFrame xs = some ⟨xs.getD 0 0 / 64, xs.getD 0 0 / 8 % 8, numIn (bitsOf8 ((xs.drop 1).take 8)) 0 16, numIn (bitsOf8 ((xs.drop 1).take 8)) 16 4, numIn (bitsOf8 ((xs.drop 1).take 8)) 20 4, numIn (bitsOf8 ((xs.drop 1).take 8)) 24 8, numIn (bitsOf8 ((xs.drop 1).take 8)) 32 32, xs.drop 10⟩ := by
  unfold readFrame; rw [if_neg (by omega), if_pos hx, if_neg (by omega), if_pos hy, if_neg (by omega)]
theorem rf_10 {xs : List Int} (hx : hasState (xs.getD 0 0 / 64) = true) (hy : hasData (xs.getD 0 0 / 64) = false) (h : 9 ≤ xs.length) : readFrame xs = some ⟨xs.getD 0 0 / 64, xs.getD 0 0 / 8 % 8, numIn (bitsOf8 ((xs.drop 1).take 8)) 0 16, numIn (bitsOf8 ((xs.drop 1).take 8)) 16 4, numIn (bitsOf8 ((xs.drop 1).take 8)) 20 4, numIn (bitsOf8 ((xs.drop 1).take 8)) 24 8, numIn (bitsOf8 ((xs.drop 1).take 8)) 32 32, []⟩ := by
  unfold readFrame; rw [if_neg (by omega), if_pos hx, if_neg (by omega), if_neg (by rw [hy]; simp)]
theorem rf_01n {xs : List Int} (hx : hasState (xs.getD 0 0 / 64) = false) (hy : hasData (xs.getD 0 0 / 64) = true) (h : xs.length = 1) : readFrame xs = none := by unfold readFrame; rw [if_neg (by omega), if_neg (by rw [hx]; simp), if_pos hy, if_pos (by omega)]
theorem rf_01 {xs : List Int} (hx : hasState (xs.getD 0 0 / 64) = false) (hy : hasData (xs.getD 0 0 / 64) = true) (h : 2 ≤ xs.length) : readFrame xs = some ⟨xs.getD 0 0 / 64, xs.getD 0 0 / 8 % 8, 0, 0, 0, 0, 0, xs.drop 2⟩ := by
  unfold readFrame; rw [if_neg (by omega), if_neg (by rw [hx]; simp), if_pos hy, if_neg (by omega)]
theorem rf_00 {xs : List Int} (hx : hasState (xs.getD 0 0 / 64) = false) (hy : hasData (xs.getD 0 0 / 64) = false) (h : 1 ≤ xs.length) : readFrame xs = some ⟨xs.getD 0 0 / 64, xs.getD 0 0 / 8 % 8, 0, 0, 0, 0, 0, []⟩ := by
  unfold readFrame; rw [if_neg (by omega), if_neg (by rw [hx]; simp), if_neg (by rw [hy]; simp)]
end

section
open Go.RowKit

/-- While a frame is checked: the block of the result, still the zero value; the frame in block J; its data a slice of the call's own. -/
structure FromSt (w wi : World) (J : Nat) (a q t m r s k : Int) (v : Value) (xs : List Int) : Prop where
  res : FrameAt 41 wi w.heap.size 0 0 0 0 0 0 0 (.slice none 0 0)
  var : FrameAt 41 wi J a q t m r s k v
  lt : w.heap.size < J
  below : Below w.heap.size w wi
  own : Own 2 wi (w.heap.size + 1) v xs
section
variable {w wi wj : World} {J : Nat} {a q t m r s k : Int} {v : Value} {xs : List Int}
theorem FromSt.call (h : FromSt w wi J a q t m r s k v xs) (b : Below wi.heap.size wi wj) : FromSt w wj J a q t m r s k v xs := ⟨h.res.below b h.res.lt, h.var.below b h.var.lt, h.lt, below_two h.below b, h.own.below b⟩
theorem FromSt.fin (h : FromSt w wi J a q t m r s k v xs) (a' q' t' m' r' s' k' : Int) (v' : Value) : FrameAt 41 (setEight wi w.heap.size a' q' t' m' r' s' k' v') w.heap.size a' q' t' m' r' s' k' v' ∧ Below w.heap.size w (setEight wi w.heap.size a' q' t' m' r' s' k' v') ∧ Own 2 (setEight wi w.heap.size a' q' t' m' r' s' k' v') w.heap.size v xs :=
  ⟨h.res.eight a' q' t' m' r' s' k' v', h.below.trans (below_eight (Nat.le_refl _) a' q' t' m' r' s' k' v'), (h.own.awayEight (by omega) a' q' t' m' r' s' k' v').more (by omega)⟩
end
/-- The frame that has been handed back is laid in a new block. -/
theorem FromSt.start {w w1 : World} {a q t m r s k : Int} {v : Value} {xs : List Int} (hb : Below (w.alloc (.cells #[.int .i64 0, .int .i64 0, .int .i64 0, .int .i64 0, .int .i64 0, .int .i64 0, .int .i64 0, .slice none 0 0] 41)).heap.size (w.alloc (.cells #[.int .i64 0, .int .i64 0, .int .i64 0, .int .i64 0, .int .i64 0, .int .i64 0, .int .i64 0, .slice none 0 0] 41)) w1) (ho : Own 2 w1 (w.alloc (.cells #[.int .i64 0, .int .i64 0, .int .i64 0, .int .i64 0, .int .i64 0, .int .i64 0, .int .i64 0, .slice none 0 0] 41)).heap.size v xs) :
    FromSt w (w1.alloc (.cells #[.int .i64 a, .int .i64 q, .int .i64 t, .int .i64 m, .int .i64 r, .int .i64 s, .int .i64 k, v] 41)) w1.heap.size a q t m r s k v xs := by
  have r0 := frame_new hb
  have e : (w.alloc (.cells #[.int .i64 0, .int .i64 0, .int .i64 0, .int .i64 0, .int .i64 0, .int .i64 0, .int .i64 0, .slice none 0 0] 41)).heap.size = w.heap.size + 1 := by simp
  have b1 : Below w1.heap.size w1 (w1.alloc (.cells #[.int .i64 a, .int .i64 q, .int .i64 t, .int .i64 m, .int .i64 r, .int .i64 s, .int .i64 k, v] 41)) := (Below.refl _ _).alloc (Nat.le_refl _) _
  rw [e] at ho
  exact ⟨r0.below b1 r0.lt, FrameAt.new w1, r0.lt, below_two (below_box hb) b1, ho.below b1⟩
theorem ff_range {xs : List Int} (h : isBytes xs = false) : frameFrom xs = (Fr.zero, 2) := by unfold frameFrom; rw [if_pos h]
theorem ff_none {xs : List Int} (h : isBytes xs = true) (h2 : readFrame xs = none) : frameFrom xs = (Fr.zero, 6) := by unfold frameFrom; rw [if_neg (by rw [h]; simp), h2]
theorem ff_no {xs : List Int} {f : Fr} (h : isBytes xs = true) (h2 : readFrame xs = some f) (h3 : ¬ (isFrame f = true ∧ frameBytes f = xs)) : frameFrom xs = (Fr.zero, 6) := by unfold frameFrom; rw [if_neg (by rw [h]; simp), h2]; simp only; rw [if_neg h3]
theorem ff_yes {xs : List Int} {f : Fr} (h : isBytes xs = true) (h2 : readFrame xs = some f) (h3 : isFrame f = true) (h4 : frameBytes f = xs) : frameFrom xs = (f, 0) := by unfold frameFrom; rw [if_neg (by rw [h]; simp), h2]; simp only; rw [if_pos ⟨h3, h4⟩]
theorem readFrame_len {xs : List Int} {f : Fr} (h : readFrame xs = some f) : f.data.length ≤ xs.length := by
  unfold readFrame at h
  split at h
  · cases h
  · split at h
    · split at h
      · cases h
      · split at h
        · split at h
          · cases h
          · cases h; simp
        · cases h; simp
    · split at h
      · split at h
        · cases h
        · cases h; simp
      · cases h; simp

end
end Go.Proofs.Ytjejflngaelgkaa
