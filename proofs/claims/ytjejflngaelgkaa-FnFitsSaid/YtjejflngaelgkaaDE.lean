/-
  Chapter 8: a frame laid in a block by a law, whatever the order.
-/
import Derived.Test.YtjejflngaelgkaaD9
import Derived.Test.YtjejflngaelgkaaSixC
import Derived.Test.YtjejflngaelgkaaBase
namespace Go.Proofs.Ytjejflngaelgkaa
open Go.RowKit

/-- A frame that has been handed back lies in block J; its data a slice of the call's own. -/
def LaidFr (wp wy : World) (J : Nat) (a q t m r s k : Int) (d : List Int) (p8 : Option Addr) (c8 : Nat) : Prop :=
  FrameAt 41 wy J a q t m r s k (.slice p8 d.length c8) ∧ Own 2 wy wp.heap.size (.slice p8 d.length c8) d ∧ (∀ i, (Value.slice p8 d.length c8).ownBlock = some i → i ≠ J) ∧ wp.heap.size ≤ J ∧ Below wp.heap.size wp wy
theorem above8 {E base : Nat} {w : World} {v : Value} {xs : List Int} {J : Nat} (h : Own E w base v xs) (hj : J < base) : ∀ k, v.ownBlock = some k → k ≠ J := fun k hk e => by have := (h.block k hk).1; omega
theorem under8 {E base : Nat} {w : World} {v : Value} {xs : List Int} (h : Own E w base v xs) : ∀ k, v.ownBlock = some k → k ≠ w.heap.size := fun k hk e => by have := (h.block k hk).2; omega
theorem laid_fr {wp wi : World} {J : Nat} {a q t m r s k a' q' t' m' r' s' k' : Int} {v' : Value} {d : List Int} {p8 : Option Addr} {c8 : Nat} (z : FrameAt 41 wi J a' q' t' m' r' s' k' v') (o : Own 2 wi wp.heap.size (.slice p8 d.length c8) d) (hn : ∀ i, (Value.slice p8 d.length c8).ownBlock = some i → i ≠ J) (hj : wp.heap.size ≤ J) (bb : Below wp.heap.size wp wi) : LaidFr wp (setEight wi J a q t m r s k (.slice p8 d.length c8)) J a q t m r s k d p8 c8 :=
  ⟨z.eight a q t m r s k _, own_notJ o hn (grown_eightJ wi J a q t m r s k _), hn, hj, bb.trans (below_eight hj a q t m r s k _)⟩
theorem emptyFrame_data (d : Ds) (t m r s k : Int) : (emptyFrame d t m r s k).1.data.length ≤ 32 := by
  unfold emptyFrame
  split
  · rename_i hd
    split
    · have hs := sizeOk_le (desc_parts hd).2.2.1
      have hz := zeros_len hs.1
      unfold emptyOf
      split <;> (simp only; omega)
    · exact Nat.zero_le _
  · exact Nat.zero_le _
theorem state_cells8 {T b : Nat} {w : World} {t m r s k : Int} (h : StateAt T w b t m r s k) : w.cell? ⟨b, 0, none⟩ = some (.int .i64 t) ∧ w.cell? ⟨b, 1, none⟩ = some (.int .i64 m) ∧ w.cell? ⟨b, 2, none⟩ = some (.int .i64 r) ∧ w.cell? ⟨b, 3, none⟩ = some (.int .i64 s) ∧ w.cell? ⟨b, 4, none⟩ = some (.int .i64 k) := ⟨h.c0, h.c1, h.c2, h.c3, h.c4⟩
theorem ne_own {v : Value} {J : Nat} (h : ∀ i, v.ownBlock = some i → i ≠ J) : some J ≠ v.ownBlock := fun e => h J e.symm rfl
end Go.Proofs.Ytjejflngaelgkaa
