/-
  The source of numbers of the specification's draws (a struct of three fields in one block of its own), and laws.big, laws.likeInts.
-/
import Derived.Test.YtadmpfmpmpdbeaaLeaf
import Derived.Test.YtadmpfmpmpdbeaaBytes
namespace Go.Proofs.Ytadmpfmpmpdbeaa
open Go.RowKit

/-- The slice value at 'ao' of length n reads in w as the bytes cs, in a block below B. -/
structure RdB (w : World) (B : Nat) (ao : Option Addr) (n : Nat) (cs : List Int) : Prop where
  len : cs.length = n
  here : 0 < n → ∃ b off, ao = some ⟨b, off, none⟩ ∧ b < B ∧ ∀ i, i < n → w.cell? ⟨b, off + i, none⟩ = some (.int .u8 (cs.getD i 0))
  bound : ∀ i, i < n → 0 ≤ cs.getD i 0 ∧ cs.getD i 0 ≤ 255

section
variable {w w' : World} {B n : Nat} {ao : Option Addr} {cs : List Int}
theorem RdB.keep (h : RdB w B ao n cs) (hk : ∀ b o, b < B → w'.cell? ⟨b, o, none⟩ = w.cell? ⟨b, o, none⟩) : RdB w' B ao n cs :=
  ⟨h.len, fun hn => by
    obtain ⟨b, off, e, hb, hc⟩ := h.here hn
    exact ⟨b, off, e, hb, fun i hi => (hk _ _ hb).trans (hc i hi)⟩, h.bound⟩
theorem rdB_of_row {a : Option Addr} {len cap : Nat} {zs : List Int}
    (h : (a = none ∧ len = 0 ∧ cap = 0 ∧ zs = []) ∨ ∃ x, a = some x ∧ len ≤ cap ∧ cap ≤ maxLen ∧ zs.length = cap ∧ (∀ i, i < zs.length → w.cell? (x.add i) = some (.int .u8 (zs.getD i 0))) ∧ ∀ n ∈ zs, (Lit.int .u8 n).wf = true) :
    RdB w w.heap.size a len (zs.take len) := by
  rcases h with ⟨rfl, rfl, rfl, rfl⟩ | ⟨x, rfl, hl, hm, hz, hc, hw⟩
  · exact ⟨rfl, fun h => absurd h (by omega), fun i hi => absurd hi (by omega)⟩
  · have hg : ∀ i, i < len → (zs.take len).getD i 0 = zs.getD i 0 := fun i hi => by simp [List.getD, hi]
    refine ⟨by rw [List.length_take]; omega, fun h0 => ?_, fun i hi => ?_⟩
    · obtain ⟨b, off, spot⟩ := x
      have hspot : spot = none := by simpa [Addr.add] using World.cell?_spot (hc 0 (by omega))
      subst hspot
      have h1 : ∀ i, i < len → w.cell? ⟨b, off + i, none⟩ = some (.int .u8 ((zs.take len).getD i 0)) := fun i hi => by
        have h1 := hc i (by omega)
        rw [Addr.add_lit] at h1
        rw [h1, hg i hi]
      exact ⟨b, off, rfl, World.block_lt_of_cell? w _ (h1 0 h0), h1⟩
    · rw [hg i hi]
      have := hw (zs.getD i 0) (getD_mem' (by omega))
      simp only [Lit.wf, Bool.and_eq_true, decide_eq_true_eq] at this
      have h1 : IntKind.u8.min = 0 := rfl
      have h2 : IntKind.u8.max = 255 := rfl
      omega
end

/-- Block p is a source: a code that lies below it, how far it has been read, and a seed. T: the number of the struct's type. -/
def Src (T : Nat) (w : World) (p : Nat) : Prop :=
  ∃ (ao : Option Addr) (n cap : Nat) (cs : List Int) (at_ : Nat) (seed : Int), w.heap[p]? = some (.cells #[.slice ao n cap, .int .i64 at_, .int .i64 seed] T (0, 0)) ∧ RdB w p ao n cs ∧ n ≤ 1048576 ∧ at_ ≤ n ∧ 0 ≤ seed ∧ seed < 2147483647

section
variable {T : Nat} {w w' : World} {p : Nat}
theorem Src.lt (h : Src T w p) : p < w.heap.size := by
  obtain ⟨_, _, _, _, _, _, h, _⟩ := h
  exact (Array.getElem?_eq_some_iff.1 h).1
theorem Src.below (h : Src T w p) (hb : Below w.heap.size w w') : Src T w' p := by
  have hlt := h.lt
  obtain ⟨ao, n, cap, cs, a, s, hh, hr, r⟩ := h
  exact ⟨ao, n, cap, cs, a, s, (hb.block p hlt).trans hh, hr.keep fun b o h => hb.cell (p := ⟨b, o, none⟩) (by exact Nat.lt_trans h hlt), r⟩
theorem Src.grown {g : Option Nat} (h : Src T w p) (hb : w.grownBy w' g) (hg : ∀ k, g = some k → p < k) : Src T w' p := by
  have hlt := h.lt
  obtain ⟨ao, n, cap, cs, a, s, hh, hr, r⟩ := h
  have hne : ∀ k, k ≤ p → some k ≠ g := fun k hk e => by have := hg k e.symm; omega
  exact ⟨ao, n, cap, cs, a, s, (hb.block p hlt (hne p (Nat.le_refl _))).trans hh,
    hr.keep fun b o h => World.cell?_of_block (a := ⟨b, o, none⟩) (hb.block b (by omega) (hne b (by omega))), r⟩
end

theorem src_seed {w : World} {p T : Nat} {s a x y : Value} (h : w.heap[p]? = some (.cells #[s, a, x] T (0, 0))) : (w.setCell ⟨p, 2, none⟩ y).heap[p]? = some (.cells #[s, a, y] T (0, 0)) := by
  have := heap_setCell_same w p 2 _ _ y h
  simpa using this
theorem src_at {w : World} {p T : Nat} {s a x y : Value} (h : w.heap[p]? = some (.cells #[s, a, x] T (0, 0))) : (w.setCell ⟨p, 1, none⟩ y).heap[p]? = some (.cells #[s, y, x] T (0, 0)) := by
  have := heap_setCell_same w p 1 _ _ y h
  simpa using this
/-- What a draw leaves: a number below n (0 if n is 1 or less); only the source has been written. -/
def Drawn (T : Nat) (w : World) (p : Nat) (n : Int) (e : Ending) (w' : World) : Prop :=
  ∃ x : Int, e = .returned (.int .i64 x) ∧ 0 ≤ x ∧ (1 < n → x < n) ∧ (n ≤ 1 → x ≤ 0) ∧ Src T w' p ∧ w.grownBy w' (some p)

theorem big_no (ao : Option Addr) (n cap : Nat) (w : World) (h : n ≤ 4096) : Calls Try.prog 16 #[.slice ao n cap] w fun e w' => e = .returned (.bool false) ∧ w = w' := by
  have hd : decide ((4096 : Int) < (n : Int)) = false := decide_eq_false (by omega)
  go_enter Try.func16, Try.ntmps16
  go_wp2
  go_ret
  exact ⟨ret_bool (by first | rfl | exact hd), rfl⟩
theorem big_yes (ao : Option Addr) (n cap : Nat) (w : World) (h : ¬ n ≤ 4096) : Calls Try.prog 16 #[.slice ao n cap] w fun e w' => e = .returned (.bool true) ∧ w = w' := by
  have hd : decide ((4096 : Int) < (n : Int)) = true := decide_eq_true (by omega)
  go_enter Try.func16, Try.ntmps16
  go_wp2
  go_ret
  exact ⟨ret_bool (by first | rfl | exact hd), rfl⟩

set_option maxHeartbeats 1000000 in
theorem next_any (p : Nat) (n : Int) (w : World) (hs : Src 79 w p) (hn : n ≤ 9223372036854775807) :
    Calls Try.prog 72 #[.pointer (some ⟨p, 0, none⟩), .int .i64 n] w (Drawn 79 w p n) := by
  by_cases h1 : n ≤ 1
  · go_enter Try.func72, Try.ntmps72
    go_wp2
    go_ret
    exact ⟨0, rfl, by omega, fun h => by omega, fun _ => by omega, hs, World.grownBy.refl _ _⟩
  · obtain ⟨ao, len, cap, cs, at_, seed, hh, hr, hlen, hat, hs0, hs1⟩ := hs
    have hc0 : w.cell? ⟨p, 0, none⟩ = some (.slice ao len cap) := cell_of_row w p 0 _ _ (0, 0) hh
    have hc1 : w.cell? ⟨p, 1, none⟩ = some (.int .i64 at_) := cell_of_row w p 1 _ _ (0, 0) hh
    have hc2 : w.cell? ⟨p, 2, none⟩ = some (.int .i64 seed) := cell_of_row w p 2 _ _ (0, 0) hh
    have hf1 : w.frozen? ⟨p, 1, none⟩ = false := frozen_of_row w p 1 _ _ hh
    have hf2 : w.frozen? ⟨p, 2, none⟩ = false := frozen_of_row w p 2 _ _ hh
    have HH := Lib.hid hh; clear hh
    have HR := Lib.hid hr; clear hr
    by_cases hlt : at_ < len
    · obtain ⟨b, off, rfl, hbp, hcode⟩ := HR.out.here (by omega)
      have hck := hcode at_ hlt
      have hcb := HR.out.bound at_ hlt
      clear hcode
      obtain ⟨c, hc⟩ : ∃ c, c = cs.getD at_ 0 := ⟨_, rfl⟩
      rw [← hc] at hck hcb
      clear hc
      obtain ⟨hcb0, hcb1⟩ := hcb
      have hfin : ∀ y z : Int, 0 ≤ y → y < 2147483647 → ∀ w', (∃ q q' : Nat, w' = (((w.setCell ⟨p, 2, none⟩ (.int .i64 y)).drewN q).setCell ⟨p, 1, none⟩ (.int .i64 ((at_ : Int) + 1))).drewN q') → Drawn 79 w p n (.returned (.int .i64 (z % n))) w' := by
        rintro y z hy0 hy1 w' ⟨q, q', rfl⟩
        refine ⟨_, rfl, Int.emod_nonneg _ (by omega), fun _ => Int.emod_lt_of_pos _ (by omega), fun h => by omega, ⟨some ⟨b, off, none⟩, len, cap, cs, at_ + 1, y, ?_, ?_, hlen, by omega, hy0, hy1⟩, ?_⟩
        · exact src_at (src_seed HH.out)
        · exact HR.out.keep fun b' o h => (World.cell?_of_block (heap_setCell_other _ ⟨p, 1, none⟩ b' _ (by simp; omega))).trans (World.cell?_of_block (heap_setCell_other _ ⟨p, 2, none⟩ b' _ (by simp; omega)))
        · exact ⟨rfl, rfl, rfl, by simp [World.setCell, World.drewN], fun k _ hk => (heap_setCell_other _ ⟨p, 1, none⟩ k _ (fun e => hk (by simp [e]))).trans (heap_setCell_other _ ⟨p, 2, none⟩ k _ (fun e => hk (by simp [e])))⟩
      have HF := Lib.hid hfin; clear hfin
      by_cases h256 : n ≤ 256
      · by_cases hev : ((at_ : Int) + 1) % 2 = 0
        · have hd : (((at_ : Int) + 1) % 2 == 0) = true := by simp [hev]
          clear hev
          go_enter Try.func72, Try.ntmps72
          go_wp2
          go_quiet (fail)
          go_wp2
          go_quiet (fail)
          go_wp2
          go_quiet (fail)
          go_wp2
          go_ret
          exact HF.out _ _ (by omega) (by omega) _ ⟨_, _, rfl⟩
        · have hd : (((at_ : Int) + 1) % 2 == 0) = false := by simp [hev]
          clear hev
          go_enter Try.func72, Try.ntmps72
          go_wp2
          go_quiet (fail)
          go_wp2
          go_quiet (fail)
          go_wp2
          go_ret
          exact HF.out _ _ (by omega) (by omega) _ ⟨_, 0, rfl⟩
      · go_enter Try.func72, Try.ntmps72
        go_wp2
        go_quiet (fail)
        go_wp2
        go_quiet (fail)
        go_wp2
        go_ret
        exact HF.out _ _ (by omega) (by omega) _ ⟨_, 0, rfl⟩
    · go_enter Try.func72, Try.ntmps72
      go_wp2
      go_quiet (fail)
      go_wp2
      go_ret
      refine ⟨_, rfl, Int.emod_nonneg _ (by omega), fun _ => Int.emod_lt_of_pos _ (by omega), fun h => by omega, ⟨ao, len, cap, cs, at_, (seed * 48271 + 17) % 2147483647, ?_, ?_, hlen, hat, by omega, by omega⟩, ?_⟩
      · exact src_seed HH.out
      · exact HR.out.keep fun b o h => World.cell?_of_block (heap_setCell_other _ _ _ _ (by simp; omega))
      · exact ⟨rfl, rfl, rfl, by simp [World.setCell, World.drewN], fun k _ hk => heap_setCell_other _ _ _ _ (fun e => hk (by simp [e]))⟩
end Go.Proofs.Ytadmpfmpmpdbeaa
