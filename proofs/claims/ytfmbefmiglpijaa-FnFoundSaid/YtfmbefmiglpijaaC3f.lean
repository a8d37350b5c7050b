/-
  Chapter 3: the syndromes of single ones, on both sides.
-/
import Derived.Test.YtfmbefmiglpijaaC3c
import Derived.Test.YtfmbefmiglpijaaDist4
namespace Go.Proofs.Ytfmbefmiglpijaa
open Go.RowKit

theorem CodeAt.below {p W B : Nat} {G : Int} {w w' : World} (h : CodeAt w p W G) (hb : Below B w w') (hp : p < B) : CodeAt w' p W G :=
  ⟨(hb.cell (p := ⟨p, 0, none⟩) hp).trans h.1, (hb.cell (p := ⟨p, 1, none⟩) hp).trans h.2⟩
theorem CodeAt.lt {p W : Nat} {G : Int} {w : World} (h : CodeAt w p W G) : p < w.heap.size := World.block_lt_of_cell? _ _ h.1

set_option maxRecDepth 100000 in
/-- spec.l03Syndromes. -/
theorem sSyndromes_any (W n : Nat) (g : BitVec W) (w : World) (h1 : 3 ≤ W) (h2 : W ≤ 24) (hn : n ≤ 64) :
    Calls Try.prog 81 #[.agg #[.int .i64 W, .int .i64 g.toNat], .int .i64 n] w (Makes 2 w (syndAll g n)) := by
  have hb0 : Below w.heap.size w (w.alloc (.cells #[.int .i64 W, .int .i64 g.toNat] 25)) := (Below.refl _ _).alloc (Nat.le_refl _) _
  have HB := Lib.hid hb0; clear hb0
  have hc : CodeAt (w.alloc (.cells #[.int .i64 W, .int .i64 g.toNat] 25)) w.heap.size W g.toNat := struct_cells (w := w) (W : Int) (g.toNat : Int) 25
  have hlt0 := hc.lt
  have HC := Lib.hid hc; clear hc
  have hsl := syndFrom_len (g := g) n
  have HSL := Lib.hid hsl; clear hsl
  go_enter Try.func81, Try.ntmps81
  go_upto_region 1 with fail
  generalize w.alloc (.cells #[.int .i64 W, .int .i64 g.toNat] 25) = w0 at HC hlt0 HB ⊢
  go_wp2_with (at_make; refine make_cap _ rfl _ _ rfl w0.heap.size Try.underlying26 info64 _ _ _ _ n n rfl rfl rfl rfl (Nat.le_refl _) (by omega) (Nat.le_refl _) ?_; intro w1 o1 b1; have hc1 := (HC.out.below b1 hlt0); obtain ⟨hca, hcb⟩ := hc1)
  clear hca hcb
  refine (feedOne_any W g _ _ _ h1 h2 (rdC_one (new_cell rfl))).mono ?_
  rintro e w2 ⟨rfl, b2⟩
  have hw1 := b1.size
  have B2 := Lib.hid ((b1.alloc hw1 (.cells #[.int .i64 1] 2)).trans (b2.mono (by simp; omega)))
  have o2 : Own 2 w2 w0.heap.size (.slice (some ⟨w0.heap.size, 0, none⟩) n n) (syndFrom g n n) := by
    rw [syndFrom_top]; exact (o1.below ((Below.refl _ _).alloc (Nat.le_refl _) _)).below b2
  have O2 := Lib.hid o2
  clear b1 b2 o1 o2 hw1
  go_wp2
  go_loopw [6, 7] (fun x i wr => ∃ k : Nat, k ≤ n ∧ i = .int .i64 ((k : Int) - 1) ∧ x = .int .i64 (tail g (n - k)).toNat ∧ Own 2 wr w0.heap.size (.slice (some ⟨w0.heap.size, 0, none⟩) n n) (syndFrom g n k) ∧ Below w0.heap.size w0 wr) (fun _ i _ => (intOf i + 1).toNat)
  case atStart => exact ⟨n, Nat.le_refl _, rfl, by rw [Nat.sub_self]; rfl, O2.out, B2.out⟩
  case round =>
    clear O2 B2
    obtain ⟨k, hk, rfl, rfl, hown, hbel⟩ := hrel
    rcases k with _ | j
    · have e : ((0 : Nat) : Int) - 1 = -1 := by omega
      rw [e]; clear e
      rw [syndFrom_zero] at hown
      have HO := Lib.hid (hown.more HB.out.size); clear hown
      have HBE := Lib.hid (below_two HB.out hbel); clear hbel
      go_wp2
      go_ret
      exact ⟨_, rfl, HO.out, HBE.out⟩
    · have e : ((j + 1 : Nat) : Int) - 1 = (j : Int) := by omega
      rw [e]; clear e
      have hcw := HC.out.below hbel hlt0
      obtain ⟨hdst, hfz, hown', hbel'⟩ := own_store hown (HSL.out _) (k := j) (by omega) ((tail g (n - (j + 1))).toNat : Int)
      have hst := syndFrom_set (g := g) n j
      rw [show synd g n j = tail g (n - (j + 1)) from by unfold synd; rw [show n - 1 - j = n - (j + 1) from by omega]] at hst
      rw [hst] at hown'
      obtain ⟨X, hX⟩ : ∃ X, X = tail g (n - (j + 1)) := ⟨_, rfl⟩
      have htl : fb g X false = tail g (n - j) := by rw [hX, ← tail_succ, show n - (j + 1) + 1 = n - j from by omega]
      rw [← hX] at hown' hbel' ⊢
      obtain ⟨z, hz⟩ : ∃ z, z = (syndFrom g n (j + 1)).getD j 0 := ⟨_, rfl⟩
      rw [← hz] at hdst
      have HO := Lib.hid hown'; clear hown' hown hst hz hX
      have HT := Lib.hid htl; clear htl
      have HBE := Lib.hid (hbel.trans hbel'); clear hbel hbel'
      have hlj : (j : Int) < (n : Int) := by omega
      go_upto_region 7 with fail
      clear hdst hfz
      generalize wr.setCell ⟨w0.heap.size, j, none⟩ (.int .i64 (X.toNat : Int)) = w5 at HO HBE ⊢
      have hw5 := HBE.out.size
      have hc5 := HC.out.below HBE.out hlt0
      obtain ⟨hca, hcb⟩ := hc5
      go_wp2_with fail
      clear hca hcb
      refine (feedNought_any W g X _ _ _ h1 h2 rdC_new).mono ?_
      rintro e w6 ⟨rfl, b6⟩
      rw [HT.out]
      have B6 := Lib.hid ((HBE.out.alloc hw5 (.cells #[.int .i64 0] 2)).trans (b6.mono (by simp; omega)))
      have O6 := Lib.hid ((HO.out.below ((Below.refl _ _).alloc (Nat.le_refl _) (.cells #[.int .i64 0] 2))).below b6)
      clear b6
      go_wp2
      go_roundw
      case rel => exact ⟨j, by omega, by go_num, rfl, O6.out, B6.out⟩
      case measure => simp [intOf]

set_option maxRecDepth 100000 in
/-- impl.syndromesOfOnes. -/
theorem syndromes_any (W n : Nat) (g : BitVec W) (w : World) (h1 : 3 ≤ W) (h2 : W ≤ 24) (hn : n ≤ 64) :
    Calls Try.prog 79 #[.agg #[.int .i64 W, .int .i64 g.toNat], .int .i64 n] w (Makes 2 w (syndAll g n)) := by
  have hb0 : Below w.heap.size w (w.alloc (.cells #[.int .i64 W, .int .i64 g.toNat] 25)) := (Below.refl _ _).alloc (Nat.le_refl _) _
  have HB := Lib.hid hb0; clear hb0
  have hsl := syndFrom_len (g := g) n
  have HSL := Lib.hid hsl; clear hsl
  go_enter Try.func79, Try.ntmps79
  go_wp2_with fail
  refine (newCode_any W g _ h1 h2).mono ?_
  rintro e w2 ⟨p2, rfl, hcy, -, b3⟩
  have B4 := Lib.hid (below_two HB.out b3)
  have HC := Lib.hid hcy.code; clear hcy b3
  have hlt2 := HC.out.lt
  go_wp2_with (at_make; refine make_cap _ rfl _ _ rfl w2.heap.size Try.underlying26 info64 _ _ _ _ n n rfl rfl rfl rfl (Nat.le_refl _) (by omega) (Nat.le_refl _) ?_; intro w1 o1 b1)
  have HC1 := Lib.hid (HC.out.below b1 hlt2)
  refine (afterFirst_any p2 W g _ h1 h2 HC1.out).mono ?_
  rintro e w' ⟨rfl, rfl⟩
  rw [← syndFrom_top (g := g)] at o1
  have O1 := Lib.hid o1
  have B1 := Lib.hid b1
  clear o1 b1
  go_wp2
  go_loopw [7, 8] (fun x i wr => ∃ k : Nat, k ≤ n ∧ i = .int .i64 ((k : Int) - 1) ∧ x = .int .i64 (tail g (n - k)).toNat ∧ Own 2 wr w2.heap.size (.slice (some ⟨w2.heap.size, 0, none⟩) n n) (syndFrom g n k) ∧ Below w2.heap.size w2 wr) (fun _ i _ => (intOf i + 1).toNat)
  case atStart => exact ⟨n, Nat.le_refl _, rfl, by rw [Nat.sub_self]; rfl, O1.out, B1.out⟩
  case round =>
    clear O1 B1 HC1
    obtain ⟨k, hk, rfl, rfl, hown, hbel⟩ := hrel
    rcases k with _ | j
    · have e : ((0 : Nat) : Int) - 1 = -1 := by omega
      rw [e]; clear e
      rw [syndFrom_zero] at hown
      have HO := Lib.hid (hown.more B4.out.size); clear hown
      have HBE := Lib.hid (below_two B4.out hbel); clear hbel
      go_wp2
      go_ret
      exact ⟨_, rfl, HO.out, HBE.out⟩
    · have e : ((j + 1 : Nat) : Int) - 1 = (j : Int) := by omega
      rw [e]; clear e
      obtain ⟨hdst, hfz, hown', hbel'⟩ := own_store hown (HSL.out _) (k := j) (by omega) ((tail g (n - (j + 1))).toNat : Int)
      have hst := syndFrom_set (g := g) n j
      rw [show synd g n j = tail g (n - (j + 1)) from by unfold synd; rw [show n - 1 - j = n - (j + 1) from by omega]] at hst
      rw [hst] at hown'
      obtain ⟨X, hX⟩ : ∃ X, X = tail g (n - (j + 1)) := ⟨_, rfl⟩
      have htl : fb g X false = tail g (n - j) := by rw [hX, ← tail_succ, show n - (j + 1) + 1 = n - j from by omega]
      rw [← hX] at hown' hbel' ⊢
      obtain ⟨z, hz⟩ : ∃ z, z = (syndFrom g n (j + 1)).getD j 0 := ⟨_, rfl⟩
      rw [← hz] at hdst
      have HO := Lib.hid hown'; clear hown' hown hst hz hX
      have HT := Lib.hid htl; clear htl
      have HBE := Lib.hid (hbel.trans hbel'); clear hbel hbel'
      have hlj : (j : Int) < (n : Int) := by omega
      go_upto_region 8 with fail
      clear hdst hfz
      generalize wr.setCell ⟨w2.heap.size, j, none⟩ (.int .i64 (X.toNat : Int)) = w5 at HO HBE ⊢
      go_wp2_with fail
      refine (afterNought_any p2 W g X _ h1 h2 (HC.out.below HBE.out hlt2)).mono ?_
      rintro e w' ⟨rfl, rfl⟩
      rw [HT.out]
      go_wp2
      go_roundw
      case rel => exact ⟨j, by omega, by go_num, rfl, HO.out, HBE.out⟩
      case measure => simp [intOf]
end Go.Proofs.Ytfmbefmiglpijaa
