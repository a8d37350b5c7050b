/-
  Contracts of the program's, the model's and the laws' functions, and plain mathematics, on which a proof of this claim stands (part M).
-/
import Derived.Deep.DeepCutAuto
import Derived.Deep.RegionHeld3
import Derived.BigQuiet
import Derived.Test.YtljdkckoelgkbaaGreatPzA
namespace Go.Proofs.YtljdkckoelgkbaaGreat
section
open Go.RowKit
theorem infoMd : (Tryz.prog.info? 37).map (fun i => (i.zero, i.size, i.bytes)) = some (some (mcVal Mc.zero), 3, 40) := by kernel_rfl
theorem ne_md : 37 ≠ 2 := by decide
def mzGo : List Md → Int → Int
  | [], m => m
  | x :: r, m => if m < x.next.length then -1 else mzGo r (m - x.next.length)
def mzS (t : List Md) (m : Int) : Int := if m < t.length then -1 else mzGo t (m - t.length)
def mTot : List Md → Nat
  | [] => 0
  | x :: r => 2 + x.next.length + mTot r
theorem mzGo_tot : ∀ (t : List Md) (m : Int), 0 ≤ mzGo t m → (mTot t : Int) ≤ 2 * t.length + m ∧ ∀ x ∈ t, (x.next.length : Int) ≤ m
  | [], m, h => ⟨by simpa [mTot, mzGo] using h, fun _ h => by cases h⟩
  | x :: r, m, h => by
    rw [mzGo] at h
    split at h
    · omega
    · obtain ⟨h1, h2⟩ := mzGo_tot r (m - x.next.length) h
      refine ⟨by rw [mTot, List.length_cons]; omega, fun y hy => ?_⟩
      rcases List.mem_cons.1 hy with rfl | hy
      · omega
      · have := h2 y hy; omega
theorem mzGo_neg : ∀ (t : List Md) (m : Int), 0 ≤ m → mzGo t m = -1 ∨ (0 ≤ mzGo t m ∧ mzGo t m ≤ m)
  | [], m, h => .inr ⟨h, Int.le_refl _⟩
  | x :: r, m, h => by
    rw [mzGo]
    split
    · exact .inl rfl
    · rcases mzGo_neg r (m - x.next.length) (by omega) with h1 | h1
      · exact .inl h1
      · exact .inr ⟨h1.1, by omega⟩
end

section
open Go.RowKit
section
variable {w0 w w' : World} {L1 L2 : List It} {E EI g n cap : Nat} {v : Value} {ms es : List Mc} {c : Mc}
end
set_option maxHeartbeats 4000000 in
set_option maxRecDepth 100000 in
set_option linter.unusedSimpArgs false in
theorem likeModes_yes (ao bo : Option Addr) (n c d : Nat) (cs ds : List Mc) (w : World) (hx : RdM w ao n cs) (hy : RdM w bo n ds) (he : mds cs = mds ds) (hn : n ≤ 9223372036854775807) :
    Calls Tryz.prog 65 #[.slice ao n c, .slice bo n d] w fun e w' => e = .returned (.bool true) ∧ Below w.heap.size w w' := by
  have HX := Lib.hid hx; have HY := Lib.hid hy; have HE := Lib.hid he; clear hx hy he
  have hne : ((n : Int) != (n : Int)) = false := by simp
  go_enter Tryz.func65, Tryz.ntmps65
  go_wp2_with fail
  clear hne
  go_loopw [5] (fun i wr => ∃ k : Nat, k ≤ n ∧ i = .int .i64 k ∧ Below w.heap.size w wr) (fun i _ => n - (intOf i).toNat)
  case atStart => exact ⟨0, Nat.zero_le _, rfl, Below.refl _ _⟩
  case round =>
    obtain ⟨k, hk, rfl, hb⟩ := hrel
    by_cases hlt : k < n
    · obtain ⟨g, off, rfl, hg, hx, hxr⟩ := HX.out.at hlt
      obtain ⟨g', off', rfl, hg', hy, hyr⟩ := HY.out.at hlt
      replace hx := hx.below hb hg
      replace hy := hy.below hb hg'
      replace hxr := hxr.below hb
      replace hyr := hyr.below hb
      have hmd : (mcOf cs k).md = (mcOf ds k).md := by rw [← mdOf_mds, ← mdOf_mds, HE.out]
      have HB := Lib.hid hb; clear hb
      generalize mcOf cs k = x at hx hxr hmd
      generalize mcOf ds k = y at hy hyr hmd
      have HGX := Lib.hid hg; have HGY := Lib.hid hg'
      obtain ⟨⟨x0, x1, xs⟩, xo, xc⟩ := x
      obtain ⟨⟨y0, y1, ys⟩, yo, yc⟩ := y
      cases hmd
      have HCALL := Lib.hid (fun W (hW : Below wr.heap.size wr W) => like_yes xo yo xs.length xs.length xc yc xs W (hxr.rd.below hW) (hyr.rd.below hW) (by have := hxr.le; have := hxr.cap; dsimp only at *; omega))
      have HXX := Lib.hid hx; have HYY := Lib.hid hy
      clear hx hy hg hg' hxr hyr
      have n0 : (x0 != x0) = false := by simp
      have n1 : (x1 != x1) = false := by simp
      go_upto_region 6 with fail
      refine wp_region_held_drew (S := fun w' => w'.cell? ⟨g, off + k * 3, none⟩ = some (.int .i64 x0) ∧ w'.cell? ⟨g, off + k * 3 + 1, none⟩ = some (.int .i64 x1) ∧ w'.cell? ⟨g, off + k * 3 + 2, none⟩ = some (.slice xo xs.length xc) ∧ w'.cell? ⟨g', off' + k * 3, none⟩ = some (.int .i64 x0) ∧ w'.cell? ⟨g', off' + k * 3 + 1, none⟩ = some (.int .i64 x1) ∧ w'.cell? ⟨g', off' + k * 3 + 2, none⟩ = some (.slice yo xs.length yc)) (by kernel_rfl) (⟨HXX.out.c0, HXX.out.c1, HXX.out.c2, HYY.out.c0, HYY.out.c1, HYY.out.c2⟩) (fun hHeld => ?_)
      refine wpAnyH_take (i := 0) (v := ?_) rfl (by kernel_rfl) (by kernel_rfl) (by kernel_rfl) (fun _ _ _ h => h) (Or.inl ⟨by rfl, ?_⟩) (by assumption) ?_
      rotate_left
      · (intro w hSw; (try dsimp only at hSw); go_simp; (try with_reducible rfl))
      try simp only [List.getElem_toArray, List.getElem_cons_succ, List.getElem_cons_zero, Act.put, List.setIfInBounds_toArray, List.set_cons_zero, List.set_cons_succ]
      refine wpAnyH_take (i := 1) (v := ?_) rfl (by kernel_rfl) (by kernel_rfl) (by kernel_rfl) (fun _ _ _ h => h) (Or.inl ⟨by rfl, ?_⟩) (by assumption) ?_
      rotate_left
      · (intro w hSw; (try dsimp only at hSw); go_simp; (try with_reducible rfl))
      try simp only [List.getElem_toArray, List.getElem_cons_succ, List.getElem_cons_zero, Act.put, List.setIfInBounds_toArray, List.set_cons_zero, List.set_cons_succ]
      refine wpAnyH_take (i := 2) (v := ?_) rfl (by kernel_rfl) (by kernel_rfl) (by kernel_rfl) (fun _ _ _ h => h) (Or.inl ⟨by rfl, ?_⟩) (by assumption) ?_
      rotate_left
      · (intro w hSw; (try dsimp only at hSw); go_simp; (try with_reducible rfl))
      try simp only [List.getElem_toArray, List.getElem_cons_succ, List.getElem_cons_zero, Act.put, List.setIfInBounds_toArray, List.set_cons_zero, List.set_cons_succ]
      refine wpAnyH_take (i := 3) (v := ?_) rfl (by kernel_rfl) (by kernel_rfl) (by kernel_rfl) (fun _ _ _ h => h) (Or.inl ⟨by rfl, ?_⟩) (by assumption) ?_
      rotate_left
      · (intro w hSw; (try dsimp only at hSw); go_simp; (try with_reducible rfl))
      try simp only [List.getElem_toArray, List.getElem_cons_succ, List.getElem_cons_zero, Act.put, List.setIfInBounds_toArray, List.set_cons_zero, List.set_cons_succ]
      refine wpAnyH_take (i := 4) (v := ?_) rfl (by kernel_rfl) (by kernel_rfl) (by kernel_rfl) (fun _ _ _ h => h) (Or.inl ⟨by rfl, ?_⟩) (by assumption) ?_
      rotate_left
      · (intro w hSw; (try dsimp only at hSw); go_simp; (try with_reducible rfl))
      try simp only [List.getElem_toArray, List.getElem_cons_succ, List.getElem_cons_zero, Act.put, List.setIfInBounds_toArray, List.set_cons_zero, List.set_cons_succ]
      refine wpAnyH_take (i := 5) (v := ?_) rfl (by kernel_rfl) (by kernel_rfl) (by kernel_rfl) (fun _ _ _ h => h) (Or.inl ⟨by rfl, ?_⟩) (by assumption) ?_
      rotate_left
      · (intro w hSw; (try dsimp only at hSw); go_simp; (try with_reducible rfl))
      try simp only [List.getElem_toArray, List.getElem_cons_succ, List.getElem_cons_zero, Act.put, List.setIfInBounds_toArray, List.set_cons_zero, List.set_cons_succ]
      refine wpAnyH_take (i := 6) (v := ?_) rfl (by kernel_rfl) (by kernel_rfl) (by kernel_rfl) (fun _ _ _ h => h) (Or.inl ⟨by rfl, ?_⟩) (by assumption) ?_
      rotate_left
      · (intro w hSw; (try dsimp only at hSw); go_simp; (try with_reducible rfl))
      try simp only [List.getElem_toArray, List.getElem_cons_succ, List.getElem_cons_zero, Act.put, List.setIfInBounds_toArray, List.set_cons_zero, List.set_cons_succ]
      refine wpAnyH_take (i := 7) (v := ?_) rfl (by kernel_rfl) (by kernel_rfl) (by kernel_rfl) (fun _ _ _ h => h) (Or.inl ⟨by rfl, ?_⟩) (by assumption) ?_
      rotate_left
      · (intro w hSw; (try dsimp only at hSw); go_simp; (try with_reducible rfl))
      try simp only [List.getElem_toArray, List.getElem_cons_succ, List.getElem_cons_zero, Act.put, List.setIfInBounds_toArray, List.set_cons_zero, List.set_cons_succ]
      refine wpAnyH_take (i := 8) (v := ?_) rfl (by kernel_rfl) (by kernel_rfl) (by kernel_rfl) (fun _ _ _ h => h) (Or.inl ⟨by rfl, ?_⟩) (by assumption) ?_
      rotate_left
      · (intro w hSw; (try dsimp only at hSw); go_simp; (try with_reducible rfl))
      try simp only [List.getElem_toArray, List.getElem_cons_succ, List.getElem_cons_zero, Act.put, List.setIfInBounds_toArray, List.set_cons_zero, List.set_cons_succ]
      refine wpAnyH_take (i := 9) (v := ?_) rfl (by kernel_rfl) (by kernel_rfl) (by kernel_rfl) (fun _ _ _ h => h) (Or.inl ⟨by rfl, ?_⟩) (by assumption) ?_
      rotate_left
      · (intro w hSw; (try dsimp only at hSw); go_simp; (try with_reducible rfl))
      try simp only [List.getElem_toArray, List.getElem_cons_succ, List.getElem_cons_zero, Act.put, List.setIfInBounds_toArray, List.set_cons_zero, List.set_cons_succ]
      refine wpAnyH_take (i := 10) (v := ?_) rfl (by kernel_rfl) (by kernel_rfl) (by kernel_rfl) (fun _ _ _ h => h) (Or.inl ⟨by rfl, ?_⟩) (by assumption) ?_
      rotate_left
      · (intro w hSw; (try dsimp only at hSw); go_simp; (try with_reducible rfl))
      try simp only [List.getElem_toArray, List.getElem_cons_succ, List.getElem_cons_zero, Act.put, List.setIfInBounds_toArray, List.set_cons_zero, List.set_cons_succ]
      refine wpAnyH_take (i := 11) (v := ?_) rfl (by kernel_rfl) (by kernel_rfl) (by kernel_rfl) (fun _ _ _ h => h) (Or.inl ⟨by rfl, ?_⟩) (by assumption) ?_
      rotate_left
      · (intro w hSw; (try dsimp only at hSw); go_simp; (try with_reducible rfl))
      try simp only [List.getElem_toArray, List.getElem_cons_succ, List.getElem_cons_zero, Act.put, List.setIfInBounds_toArray, List.set_cons_zero, List.set_cons_succ]
      refine wpAnyH_take (i := 12) (v := ?_) rfl (by kernel_rfl) (by kernel_rfl) (by kernel_rfl) (fun _ _ _ h => h) (Or.inl ⟨by rfl, ?_⟩) (by assumption) ?_
      rotate_left
      · (intro w hSw; (try dsimp only at hSw); go_simp; (try with_reducible rfl))
      try simp only [List.getElem_toArray, List.getElem_cons_succ, List.getElem_cons_zero, Act.put, List.setIfInBounds_toArray, List.set_cons_zero, List.set_cons_succ]
      refine wpAnyH_take (i := 13) (v := ?_) rfl (by kernel_rfl) (by kernel_rfl) (by kernel_rfl) (fun _ _ _ h => h) (Or.inl ⟨by rfl, ?_⟩) (by assumption) ?_
      rotate_left
      · (intro w hSw; (try dsimp only at hSw); go_simp; (try with_reducible rfl))
      try simp only [List.getElem_toArray, List.getElem_cons_succ, List.getElem_cons_zero, Act.put, List.setIfInBounds_toArray, List.set_cons_zero, List.set_cons_succ]
      refine wpAnyH_take (i := 14) (v := ?_) rfl (by kernel_rfl) (by kernel_rfl) (by kernel_rfl) (fun _ _ _ h => h) (Or.inl ⟨by rfl, ?_⟩) (by assumption) ?_
      rotate_left
      · (intro w hSw; (try dsimp only at hSw); go_simp; (try with_reducible rfl))
      try simp only [List.getElem_toArray, List.getElem_cons_succ, List.getElem_cons_zero, Act.put, List.setIfInBounds_toArray, List.set_cons_zero, List.set_cons_succ]
      refine wpAnyH_take (i := 15) (v := ?_) rfl (by kernel_rfl) (by kernel_rfl) (by kernel_rfl) (fun _ _ _ h => h) (Or.inl ⟨by rfl, ?_⟩) (by assumption) ?_
      rotate_left
      · (intro w hSw; (try dsimp only at hSw); go_simp; (try with_reducible rfl))
      try simp only [List.getElem_toArray, List.getElem_cons_succ, List.getElem_cons_zero, Act.put, List.setIfInBounds_toArray, List.set_cons_zero, List.set_cons_succ]
      refine wpAnyH_take (i := 16) (v := ?_) rfl (by kernel_rfl) (by kernel_rfl) (by kernel_rfl) (fun _ _ _ h => h) (Or.inl ⟨by rfl, ?_⟩) (by assumption) ?_
      rotate_left
      · (intro w hSw; (try dsimp only at hSw); go_simp; (try with_reducible rfl))
      try simp only [List.getElem_toArray, List.getElem_cons_succ, List.getElem_cons_zero, Act.put, List.setIfInBounds_toArray, List.set_cons_zero, List.set_cons_succ]
      refine wpAnyH_take (i := 17) (v := ?_) rfl (by kernel_rfl) (by kernel_rfl) (by kernel_rfl) (fun _ _ _ h => h) (Or.inl ⟨by rfl, ?_⟩) (by assumption) ?_
      rotate_left
      · (intro w hSw; (try dsimp only at hSw); go_simp; (try with_reducible rfl))
      try simp only [List.getElem_toArray, List.getElem_cons_succ, List.getElem_cons_zero, Act.put, List.setIfInBounds_toArray, List.set_cons_zero, List.set_cons_succ]
      refine wpAnyH_take (i := 18) (v := ?_) rfl (by kernel_rfl) (by kernel_rfl) (by kernel_rfl) (fun _ _ _ h => h) (Or.inl ⟨by rfl, ?_⟩) (by assumption) ?_
      rotate_left
      · (intro w hSw; (try dsimp only at hSw); go_simp; (try with_reducible rfl))
      try simp only [List.getElem_toArray, List.getElem_cons_succ, List.getElem_cons_zero, Act.put, List.setIfInBounds_toArray, List.set_cons_zero, List.set_cons_succ]
      refine wpAnyH_take (i := 19) (v := ?_) rfl (by kernel_rfl) (by kernel_rfl) (by kernel_rfl) (fun _ _ _ h => h) (Or.inl ⟨by rfl, ?_⟩) (by assumption) ?_
      rotate_left
      · (intro w hSw; (try dsimp only at hSw); go_simp; (try with_reducible rfl))
      try simp only [List.getElem_toArray, List.getElem_cons_succ, List.getElem_cons_zero, Act.put, List.setIfInBounds_toArray, List.set_cons_zero, List.set_cons_succ]
      refine wpAnyH_take (i := 20) (v := ?_) rfl (by kernel_rfl) (by kernel_rfl) (by kernel_rfl) (fun _ _ _ h => h) (Or.inl ⟨by rfl, ?_⟩) (by assumption) ?_
      rotate_left
      · (intro w hSw; (try dsimp only at hSw); go_simp; (try with_reducible rfl))
      try simp only [List.getElem_toArray, List.getElem_cons_succ, List.getElem_cons_zero, Act.put, List.setIfInBounds_toArray, List.set_cons_zero, List.set_cons_succ]
      refine wpAnyH_take (i := 21) (v := ?_) rfl (by kernel_rfl) (by kernel_rfl) (by kernel_rfl) (fun _ _ _ h => h) (Or.inl ⟨by rfl, ?_⟩) (by assumption) ?_
      rotate_left
      · (intro w hSw; (try dsimp only at hSw); go_simp; (try with_reducible rfl))
      try simp only [List.getElem_toArray, List.getElem_cons_succ, List.getElem_cons_zero, Act.put, List.setIfInBounds_toArray, List.set_cons_zero, List.set_cons_succ]
      refine wpAnyH_take (i := 22) (v := ?_) rfl (by kernel_rfl) (by kernel_rfl) (by kernel_rfl) (fun _ _ _ h => h) (Or.inl ⟨by rfl, ?_⟩) (by assumption) ?_
      rotate_left
      · (intro w hSw; (try dsimp only at hSw); go_simp; (try with_reducible rfl))
      try simp only [List.getElem_toArray, List.getElem_cons_succ, List.getElem_cons_zero, Act.put, List.setIfInBounds_toArray, List.set_cons_zero, List.set_cons_succ]
      refine wpAnyH_take (i := 23) (v := ?_) rfl (by kernel_rfl) (by kernel_rfl) (by kernel_rfl) (fun _ _ _ h => h) (Or.inl ⟨by rfl, ?_⟩) (by assumption) ?_
      rotate_left
      · (intro w hSw; (try dsimp only at hSw); go_simp; (try with_reducible rfl))
      try simp only [List.getElem_toArray, List.getElem_cons_succ, List.getElem_cons_zero, Act.put, List.setIfInBounds_toArray, List.set_cons_zero, List.set_cons_succ]
      refine wpAnyH_take (i := 24) (v := ?_) rfl (by kernel_rfl) (by kernel_rfl) (by kernel_rfl) (fun _ _ _ h => h) (Or.inl ⟨by rfl, ?_⟩) (by assumption) ?_
      rotate_left
      · (intro w hSw; (try dsimp only at hSw); go_simp; (try with_reducible rfl))
      try simp only [List.getElem_toArray, List.getElem_cons_succ, List.getElem_cons_zero, Act.put, List.setIfInBounds_toArray, List.set_cons_zero, List.set_cons_succ]
      refine wpAnyH_take (i := 25) (v := ?_) rfl (by kernel_rfl) (by kernel_rfl) (by kernel_rfl) (fun _ _ _ h => h) (Or.inl ⟨by rfl, ?_⟩) (by assumption) ?_
      rotate_left
      · (intro w hSw; (try dsimp only at hSw); go_simp; (try with_reducible rfl))
      try simp only [List.getElem_toArray, List.getElem_cons_succ, List.getElem_cons_zero, Act.put, List.setIfInBounds_toArray, List.set_cons_zero, List.set_cons_succ]
      refine wpAnyH_take (i := 26) (v := ?_) rfl (by kernel_rfl) (by kernel_rfl) (by kernel_rfl) (fun _ _ _ h => h) (Or.inl ⟨by rfl, ?_⟩) (by assumption) ?_
      rotate_left
      · (intro w hSw; (try dsimp only at hSw); go_simp; (try with_reducible rfl))
      try simp only [List.getElem_toArray, List.getElem_cons_succ, List.getElem_cons_zero, Act.put, List.setIfInBounds_toArray, List.set_cons_zero, List.set_cons_succ]
      refine wpAnyH_take (i := 27) (v := ?_) rfl (by kernel_rfl) (by kernel_rfl) (by kernel_rfl) (fun _ _ _ h => h) (Or.inl ⟨by rfl, ?_⟩) (by assumption) ?_
      rotate_left
      · (intro w hSw; (try dsimp only at hSw); go_simp; (try with_reducible rfl))
      try simp only [List.getElem_toArray, List.getElem_cons_succ, List.getElem_cons_zero, Act.put, List.setIfInBounds_toArray, List.set_cons_zero, List.set_cons_succ]
      refine wpAnyH_take (i := 28) (v := ?_) rfl (by kernel_rfl) (by kernel_rfl) (by kernel_rfl) (fun _ _ _ h => h) (Or.inl ⟨by rfl, ?_⟩) (by assumption) ?_
      rotate_left
      · (intro w hSw; (try dsimp only at hSw); go_simp; (try with_reducible rfl))
      try simp only [List.getElem_toArray, List.getElem_cons_succ, List.getElem_cons_zero, Act.put, List.setIfInBounds_toArray, List.set_cons_zero, List.set_cons_succ]
      refine wpAnyH_take (i := 29) (v := ?_) rfl (by kernel_rfl) (by kernel_rfl) (by kernel_rfl) (fun _ _ _ h => h) (Or.inl ⟨by rfl, ?_⟩) (by assumption) ?_
      rotate_left
      · (intro w hSw; (try dsimp only at hSw); go_simp; (try with_reducible rfl))
      try simp only [List.getElem_toArray, List.getElem_cons_succ, List.getElem_cons_zero, Act.put, List.setIfInBounds_toArray, List.set_cons_zero, List.set_cons_succ]
      refine wpAnyH_take (i := 30) (v := ?_) rfl (by kernel_rfl) (by kernel_rfl) (by kernel_rfl) (fun _ _ _ h => h) (Or.inl ⟨by rfl, ?_⟩) (by assumption) ?_
      rotate_left
      · (intro w hSw; (try dsimp only at hSw); go_simp; (try with_reducible rfl))
      try simp only [List.getElem_toArray, List.getElem_cons_succ, List.getElem_cons_zero, Act.put, List.setIfInBounds_toArray, List.set_cons_zero, List.set_cons_succ]
      refine wpAnyH_take (i := 31) (v := ?_) rfl (by kernel_rfl) (by kernel_rfl) (by kernel_rfl) (fun _ _ _ h => h) (Or.inl ⟨by rfl, ?_⟩) (by assumption) ?_
      rotate_left
      · (intro w hSw; (try dsimp only at hSw); go_simp; (try with_reducible rfl))
      try simp only [List.getElem_toArray, List.getElem_cons_succ, List.getElem_cons_zero, Act.put, List.setIfInBounds_toArray, List.set_cons_zero, List.set_cons_succ]
      refine wpAnyH_take (i := 32) (v := ?_) rfl (by kernel_rfl) (by kernel_rfl) (by kernel_rfl) (fun _ _ _ h => h) (Or.inl ⟨by rfl, ?_⟩) (by assumption) ?_
      rotate_left
      · (intro w hSw; (try dsimp only at hSw); go_simp; (try with_reducible rfl))
      try simp only [List.getElem_toArray, List.getElem_cons_succ, List.getElem_cons_zero, Act.put, List.setIfInBounds_toArray, List.set_cons_zero, List.set_cons_succ]
      refine wpAnyH_take (i := 33) (v := ?_) rfl (by kernel_rfl) (by kernel_rfl) (by kernel_rfl) (fun _ _ _ h => h) (Or.inl ⟨by rfl, ?_⟩) (by assumption) ?_
      rotate_left
      · (intro w hSw; (try dsimp only at hSw); go_simp; (try with_reducible rfl))
      try simp only [List.getElem_toArray, List.getElem_cons_succ, List.getElem_cons_zero, Act.put, List.setIfInBounds_toArray, List.set_cons_zero, List.set_cons_succ]
      refine wpAnyH_take (i := 34) (v := ?_) rfl (by kernel_rfl) (by kernel_rfl) (by kernel_rfl) (fun _ _ _ h => h) (Or.inl ⟨by rfl, ?_⟩) (by assumption) ?_
      rotate_left
      · (intro w hSw; (try dsimp only at hSw); go_simp; (try with_reducible rfl))
      try simp only [List.getElem_toArray, List.getElem_cons_succ, List.getElem_cons_zero, Act.put, List.setIfInBounds_toArray, List.set_cons_zero, List.set_cons_succ]
      refine wpAnyH_ready (rs := [35]) (by kernel_rfl) (by simp) (AllReadyH.cons rfl (fun K hK => ?_) AllReadyH.nil)
      go_simp
      refine (HCALL.out _ (Below.drew (Below.refl wr.heap.size wr))).mono ?_
      rintro e w2 ⟨rfl, b2⟩
      replace b2 := below_two (Below.drew (Below.refl wr.heap.size wr)) b2
      have HX2 := Lib.hid (HXX.out.below b2 (Nat.lt_of_lt_of_le HGX.out HB.out.size))
      have HY2 := Lib.hid (HYY.out.below b2 (Nat.lt_of_lt_of_le HGY.out HB.out.size))
      have HB2 := Lib.hid (below_two HB.out b2)
      clear b2
      go_wp2_with fail
      refine hK.out _ _ ?_ (fun hHeld => ?_)
      · exact ⟨HX2.out.c0, HX2.out.c1, HX2.out.c2, HY2.out.c0, HY2.out.c1, HY2.out.c2⟩
      clear hK K
      try simp only [List.getElem_toArray, List.getElem_cons_succ, List.getElem_cons_zero, Act.put, List.setIfInBounds_toArray, List.set_cons_zero, List.set_cons_succ]
      refine wpAnyH_take (i := 36) (v := ?_) rfl (by kernel_rfl) (by kernel_rfl) (by kernel_rfl) (fun _ _ _ h => h) (Or.inl ⟨by rfl, ?_⟩) (by assumption) ?_
      rotate_left
      · (intro w hSw; (try dsimp only at hSw); go_simp; (try with_reducible rfl))
      try simp only [List.getElem_toArray, List.getElem_cons_succ, List.getElem_cons_zero, Act.put, List.setIfInBounds_toArray, List.set_cons_zero, List.set_cons_succ]
      refine wpAnyH_take (i := 37) (v := ?_) rfl (by kernel_rfl) (by kernel_rfl) (by kernel_rfl) (fun _ _ _ h => h) (Or.inl ⟨by rfl, ?_⟩) (by assumption) ?_
      rotate_left
      · (intro w hSw; (try dsimp only at hSw); go_simp; (try with_reducible rfl))
      try simp only [List.getElem_toArray, List.getElem_cons_succ, List.getElem_cons_zero, Act.put, List.setIfInBounds_toArray, List.set_cons_zero, List.set_cons_succ]
      refine wpAnyH_done (by kernel_rfl) ?_ _
      go_wp2_with fail
      go_roundw
      case rel => exact ⟨k + 1, by omega, by go_num, HB2.out⟩
      case measure => simp [intOf]; omega
    · have hkn : k = n := by omega
      subst hkn
      have HB := Lib.hid hb; clear hb
      go_wp2_with fail
      go_ret
      exact ⟨rfl, HB.out⟩
end

section
open Go.RowKit
def FirstAt (xs : List Int) (x r : Int) : Prop := (r = -1 ∧ ∀ j, j < xs.length → xs.getD j 0 ≠ x) ∨ ∃ k : Nat, r = k ∧ k < xs.length ∧ xs.getD k 0 = x ∧ ∀ j, j < k → xs.getD j 0 ≠ x
theorem getD_mem_iff (xs : List Int) (x : Int) : x ∈ xs ↔ ∃ j, j < xs.length ∧ xs.getD j 0 = x := by
  rw [List.mem_iff_getElem]
  constructor
  · rintro ⟨j, h, e⟩; exact ⟨j, h, by simpa [List.getD, h] using e⟩
  · rintro ⟨j, h, e⟩; exact ⟨j, h, by simpa [List.getD, h] using e⟩
theorem firstAt_mem {xs : List Int} {x r : Int} (h : FirstAt xs x r) : (decide (0 ≤ r)) = decide (x ∈ xs) := by
  rw [decide_eq_decide, getD_mem_iff]
  rcases h with ⟨h1, h2⟩ | ⟨k, h1, h2, h3, h4⟩
  · constructor
    · intro h; omega
    · rintro ⟨j, hj, e⟩; exact absurd e (h2 j hj)
  · exact ⟨fun _ => ⟨k, h2, h3⟩, fun _ => by omega⟩
theorem index_any (ao : Option Addr) (n cap : Nat) (xs : List Int) (x : Int) (w : World) (hr : Rd w ao n xs) (hn : n ≤ 1048576) :
    Calls Tryz.prog 195 #[.slice ao n cap, .int .i64 x] w fun e w' => ∃ r, e = .returned (.int .i64 r) ∧ FirstAt xs x r ∧ w = w' := by
  obtain ⟨hlen, hat⟩ := hr
  have HL := Lib.hid hlen; clear hlen
  have HA := Lib.hid hat; clear hat
  go_enter Tryz.func195, Tryz.ntmps195
  go_wp2
  go_loop [8] (fun i => ∃ k : Nat, k ≤ n ∧ i = .int .i64 k ∧ Hid (∀ j, j < k → xs.getD j 0 ≠ x)) (fun i => n - (intOf i).toNat)
  case atStart => exact ⟨0, Nat.zero_le _, rfl, fun j h => absurd h (by omega)⟩
  case round =>
    obtain ⟨k, hk, rfl, HY⟩ := hrel
    by_cases hlt : k < n
    · obtain ⟨b, off, rfl, hall⟩ := HA.out (by omega)
      have hck := hall k hlt
      clear hall
      obtain ⟨y, hy⟩ : ∃ y, y = xs.getD k 0 := ⟨_, rfl⟩
      rw [← hy] at hck
      have HYK := Lib.hid hy; clear hy
      by_cases hxy : x = y
      · have t1 : (x == y) = true := by simp [hxy]
        have hfin : FirstAt xs x k := .inr ⟨k, rfl, by rw [HL.out]; exact hlt, by rw [← HYK.out, hxy], HY.out⟩
        have HF := Lib.hid hfin; clear hfin hxy
        go_wp2
        go_ret
        exact ⟨_, rfl, HF.out, rfl⟩
      · have t1 : (x == y) = false := by simp [hxy]
        have hfin : ∀ j, j < k + 1 → xs.getD j 0 ≠ x := fun j hj => by
          by_cases e : j = k
          · rw [e, ← HYK.out]; exact fun h => hxy h.symm
          · exact HY.out j (by omega)
        have HF := Lib.hid hfin; clear hfin hxy
        go_wp2
        go_round
        case rel => exact ⟨k + 1, by omega, by go_num, HF⟩
        case measure => simp [intOf]; omega
    · have hkn : k = n := by omega
      subst hkn
      have hfin : FirstAt xs x (-1) := .inl ⟨rfl, fun j hj => HY.out j (by rw [← HL.out]; exact hj)⟩
      have HF := Lib.hid hfin; clear hfin
      go_wp2
      go_ret
      exact ⟨_, rfl, HF.out, rfl⟩
theorem contains_any (ao : Option Addr) (n cap : Nat) (xs : List Int) (x : Int) (w : World) (hr : Rd w ao n xs) (hn : n ≤ 1048576) :
    Calls Tryz.prog 159 #[.slice ao n cap, .int .i64 x] w fun e w' => e = .returned (.bool (decide (x ∈ xs))) ∧ w = w' := by
  have HR := Lib.hid hr; clear hr
  go_enter Tryz.func159, Tryz.ntmps159
  go_wp2_with fail
  refine (index_any _ _ _ xs x _ HR.out hn).mono ?_
  rintro e w' ⟨r, rfl, hf, rfl⟩
  have HF := Lib.hid (firstAt_mem hf); clear hf
  go_wp2
  go_ret
  exact ⟨ret_bool HF.out, rfl⟩
end

section
open Go.RowKit
def smallM (cs : List Mc) : Prop := ∀ c ∈ cs, c.md.next.length ≤ 1048576
theorem isCycle_any (r s : Int) (w : World) : Calls Tryz.prog 157 #[.int .i64 r, .int .i64 s] w fun e w' => e = .returned (.bool (inRange 1 8 r && inRange 1 16 s)) ∧ w = w' := by
  by_cases h0 : 1 ≤ r
  · by_cases h1 : r ≤ 8
    · by_cases h2 : 1 ≤ s
      · by_cases h3 : s ≤ 16
        · have e : (inRange 1 8 r && inRange 1 16 s) = true := by simp [inRange, h0, h1, h2, h3]
          have HE := Lib.hid e; clear e
          go_enter Tryz.func157, Tryz.ntmps157
          go_wp2
          go_ret
          exact ⟨ret_bool (by rw [HE.out] <;> first | rfl | (simp; omega)), rfl⟩
        · have e : (inRange 1 8 r && inRange 1 16 s) = false := by simp [inRange, h3]
          have HE := Lib.hid e; clear e
          go_enter Tryz.func157, Tryz.ntmps157
          go_wp2
          go_ret
          exact ⟨ret_bool (by rw [HE.out] <;> first | rfl | (simp; omega)), rfl⟩
      · have e : (inRange 1 8 r && inRange 1 16 s) = false := by simp [inRange, h2]
        have HE := Lib.hid e; clear e
        go_enter Tryz.func157, Tryz.ntmps157
        go_wp2
        go_ret
        exact ⟨ret_bool (by rw [HE.out] <;> first | rfl | (simp; omega)), rfl⟩
    · have e : (inRange 1 8 r && inRange 1 16 s) = false := by simp [inRange, h1]
      have HE := Lib.hid e; clear e
      go_enter Tryz.func157, Tryz.ntmps157
      go_wp2
      go_ret
      exact ⟨ret_bool (by rw [HE.out] <;> first | rfl | (simp; omega)), rfl⟩
  · have e : (inRange 1 8 r && inRange 1 16 s) = false := by simp [inRange, h0]
    have HE := Lib.hid e; clear e
    go_enter Tryz.func157, Tryz.ntmps157
    go_wp2
    go_ret
    exact ⟨ret_bool (by rw [HE.out] <;> first | rfl | (simp; omega)), rfl⟩
theorem okM_next {t : List Md} {k : Nat} (h : ∀ i, i < k → isMd t.length i (mdOf t i) = true) (hk : isMd t.length k (mdOf t k) = true) : ∀ i, i < k + 1 → isMd t.length i (mdOf t i) = true := fun i hi => by
  rcases Nat.lt_or_ge i k with hl | hl
  · exact h i hl
  · rw [show i = k from by omega]; exact hk
set_option maxHeartbeats 1000000 in
set_option maxRecDepth 100000 in
theorem isModesI_any (ao : Option Addr) (n cap : Nat) (cs : List Mc) (w : World) (hr : RdM w ao n cs) (hn : n ≤ 1048576) (hs : smallM cs) :
    Calls Tryz.prog 100 #[.slice ao n cap] w fun e w' => e = .returned (.bool (isModes (mds cs))) ∧ Below w.heap.size w w' := by
  have hl := (mds_len cs).trans hr.len
  by_cases h0 : n = 0
  · have hF : isModes (mds cs) = false := by unfold isModes; rw [hl, h0]; rfl
    have HF := Lib.hid hF; clear hr hl hs hF
    subst h0
    go_enter Tryz.func100, Tryz.ntmps100
    go_wp2
    go_ret
    rw [HF.out]
    exact ⟨rfl, Below.refl _ _⟩
  have hz : ((n : Int) == 0) = false := by simp [h0]
  by_cases h16 : 16 < n
  · have hF : isModes (mds cs) = false := by unfold isModes; rw [hl, decide_eq_false (show ¬ n ≤ 16 by omega)]; simp
    have HF := Lib.hid hF; clear hr hl hs hF h0
    have hg : (16 : Int) < (n : Int) := by omega
    go_enter Tryz.func100, Tryz.ntmps100
    go_wp2
    go_ret
    rw [HF.out]
    exact ⟨rfl, Below.refl _ _⟩
  have HL := Lib.hid hl
  have HR := Lib.hid hr
  have HS := Lib.hid hs
  have hg : ¬ (16 : Int) < (n : Int) := by omega
  have HN := Lib.hid (show 1 ≤ n ∧ n ≤ 16 by omega)
  clear hl hr hs h0 h16
  go_enter Tryz.func100, Tryz.ntmps100
  go_wp2_with fail
  clear hz hg
  go_loopw [15] (fun i wr => ∃ k : Nat, k ≤ n ∧ i = .int .i64 k ∧ Below w.heap.size w wr ∧ Hid (∀ i, i < k → isMd (mds cs).length i (mdOf (mds cs) i) = true)) (fun i _ => n - (intOf i).toNat)
  case atStart => exact ⟨0, Nat.zero_le _, rfl, Below.refl _ _, fun i h => absurd h (by omega)⟩
  case round =>
    obtain ⟨k, hk, rfl, hb, hall⟩ := hrel
    by_cases hlt : k < n
    · obtain ⟨g, off, rfl, hg, hx, hrd⟩ := HR.out.at hlt
      replace hx := hx.below hb hg
      replace hrd := hrd.below hb
      have hkt : k < cs.length := by rw [HR.out.len]; exact hlt
      have hsm := HS.out _ (mcOf_mem hkt)
      have hno : isMd n k (mcOf cs k).md = false → isModes (mds cs) = false := fun h => modes_no (k := k) (by rw [mds_len]; exact hkt) (by rw [HL.out, mdOf_mds]; exact h)
      have hyes : isMd n k (mcOf cs k).md = true → ∀ i, i < k + 1 → isMd (mds cs).length i (mdOf (mds cs) i) = true := fun h => okM_next hall.out (by rw [HL.out, mdOf_mds]; exact h)
      generalize mcOf cs k = c at hx hrd hsm hno hyes
      have HNO := Lib.hid hno; have HYES := Lib.hid hyes; have HB0 := Lib.hid hb
      clear hno hyes hb hkt hall
      obtain ⟨⟨r, s, xs⟩, xo, xc⟩ := c
      obtain ⟨h0, h1, h2⟩ := hx
      have hrr := hrd.rd
      dsimp only at h0 h1 h2 hrr hsm
      have hb1 := (Below.refl wr.heap.size wr).alloc (Nat.le_refl _) (.cells #[.int .i64 r, .int .i64 s, .slice xo xs.length xc] 37)
      have HB := Lib.hid (below_two HB0.out hb1)
      have HIDX := Lib.hid (areIndices_any xo xs.length xc xs n _ (hrr.below hb1) (by omega))
      have HCON := Lib.hid (contains_any xo xs.length xc xs k _ (hrr.below hb1) hsm)
      have HMD := Lib.hid (show isMd n k ⟨r, s, xs⟩ = ((inRange 1 8 r && inRange 1 16 s) && (rises (n : Int) xs && !decide ((k : Int) ∈ xs))) by unfold isMd; dsimp only; rw [Bool.and_assoc])
      clear hb1 hrd hrr hsm HB0
      rcases hcy : (inRange 1 8 r && inRange 1 16 s) with _ | _
      · have HF := Lib.hid (HNO.out (by rw [HMD.out, hcy]; rfl))
        go_wp2_with fail
        refine (isCycle_any r s _).mono ?_
        rintro e w2 ⟨rfl, rfl⟩
        rw [hcy]
        clear h0 h1 h2
        go_wp2_with fail
        go_ret
        rw [HF.out]
        exact ⟨rfl, HB.out⟩
      rcases hri : rises (n : Int) xs with _ | _
      · have HF := Lib.hid (HNO.out (by rw [HMD.out, hcy, hri]; rfl))
        go_wp2_with fail
        refine (isCycle_any r s _).mono ?_
        rintro e w2 ⟨rfl, rfl⟩
        rw [hcy]
        clear h0 h1 h2
        go_wp2_with fail
        refine HIDX.out.mono ?_
        rintro e w2 ⟨rfl, rfl⟩
        rw [hri]
        go_wp2_with fail
        go_ret
        rw [HF.out]
        exact ⟨rfl, HB.out⟩
      rcases hco : decide ((k : Int) ∈ xs) with _ | _
      · have HF := Lib.hid (HYES.out (by rw [HMD.out, hcy, hri, hco]; rfl))
        go_wp2_with fail
        refine (isCycle_any r s _).mono ?_
        rintro e w2 ⟨rfl, rfl⟩
        rw [hcy]
        clear h0 h1 h2
        go_wp2_with fail
        refine HIDX.out.mono ?_
        rintro e w2 ⟨rfl, rfl⟩
        rw [hri]
        go_wp2_with fail
        refine HCON.out.mono ?_
        rintro e w2 ⟨rfl, rfl⟩
        rw [hco]
        go_wp2_with fail
        go_roundw
        case rel => exact ⟨k + 1, by omega, by go_num, HB.out, HF⟩
        case measure => simp [intOf]; omega
      · have HF := Lib.hid (HNO.out (by rw [HMD.out, hcy, hri, hco]; rfl))
        go_wp2_with fail
        refine (isCycle_any r s _).mono ?_
        rintro e w2 ⟨rfl, rfl⟩
        rw [hcy]
        clear h0 h1 h2
        go_wp2_with fail
        refine HIDX.out.mono ?_
        rintro e w2 ⟨rfl, rfl⟩
        rw [hri]
        go_wp2_with fail
        refine HCON.out.mono ?_
        rintro e w2 ⟨rfl, rfl⟩
        rw [hco]
        go_wp2_with fail
        go_ret
        rw [HF.out]
        exact ⟨rfl, HB.out⟩
    · have hkn : k = n := by omega
      subst hkn
      have HF := Lib.hid (show isModes (mds cs) = true from isModes_iff.2 ⟨by rw [HL.out]; exact HN.out, by rw [HL.out]; rw [HL.out] at hall; exact hall.out⟩)
      have HB := Lib.hid hb; clear hb hall
      go_wp2_with fail
      go_ret
      rw [HF.out]
      exact ⟨rfl, HB.out⟩
theorem isModeOf_any (ao : Option Addr) (n cap : Nat) (m : Int) (t : List Md) (w : World) (hl : t.length = n) (_hn : n ≤ 9223372036854775807) :
    Calls Tryz.prog 170 #[.slice ao n cap, .int .i64 m] w fun e w' => e = .returned (.bool (isMode t m)) ∧ w = w' := by
  by_cases h0 : 0 ≤ m
  · by_cases h1 : m < n
    · have HE := Lib.hid (show isMode t m = true from isMode_iff.2 ⟨h0, by rw [hl]; exact h1⟩)
      go_enter Tryz.func170, Tryz.ntmps170
      go_wp2
      go_ret
      exact ⟨ret_bool (by rw [HE.out] <;> first | rfl | (simp; omega)), rfl⟩
    · have HE := Lib.hid (show isMode t m = false from by rw [Bool.eq_false_iff]; intro h; exact h1 (by have := (isMode_iff.1 h).2; omega))
      go_enter Tryz.func170, Tryz.ntmps170
      go_wp2
      go_ret
      exact ⟨ret_bool (by rw [HE.out] <;> first | rfl | (simp; omega)), rfl⟩
  · have HE := Lib.hid (show isMode t m = false from by rw [Bool.eq_false_iff]; intro h; exact h0 (isMode_iff.1 h).1)
    go_enter Tryz.func170, Tryz.ntmps170
    go_wp2
    go_ret
    exact ⟨ret_bool (by rw [HE.out] <;> first | rfl | (simp; omega)), rfl⟩
end

section
open Go.RowKit
section
variable {w0 w w' : World} {L1 L2 : List It} {E EI : Nat} {v : Value} {xs ys : List Int}
end
theorem len_of {cs : List Mc} {t : List Md} (h : mds cs = t) : cs.length = t.length := by rw [← h, mds_len]
theorem likeModes_two (ao bo : Option Addr) (c d : Nat) (cs ds : List Mc) (w : World) (hx : RdM w ao cs.length cs) (hy : RdM w bo ds.length ds) (he : mds cs = mds ds) (hn : cs.length ≤ 9223372036854775807) :
    Calls Tryz.prog 65 #[.slice ao cs.length c, .slice bo ds.length d] w fun e w' => e = .returned (.bool true) ∧ Below w.heap.size w w' := by
  have e : ds.length = cs.length := (len_of he.symm).trans (mds_len cs)
  rw [e] at hy ⊢
  exact likeModes_yes ao bo cs.length c d cs ds w hx hy he hn
end

section
open Go.RowKit
set_option maxHeartbeats 2000000 in
set_option maxRecDepth 100000 in
theorem isModesS_any (ao : Option Addr) (n cap : Nat) (cs : List Mc) (w : World) (hr : RdM w ao n cs) (hn : n ≤ 1048576) (hs : smallM cs) :
    Calls Tryz.prog 44 #[.slice ao n cap] w fun e w' => e = .returned (.bool (isModes (mds cs))) ∧ Below w.heap.size w w' := by
  have hl := (mds_len cs).trans hr.len
  have HIN := Lib.hid (fun W => l01In_any (n : Int) 1 16 W)
  rcases hrg : inRange 1 16 (n : Int) with _ | _
  · have hF : isModes (mds cs) = false := by
      rw [Bool.eq_false_iff]; intro h
      have := (isModes_iff.1 h).1
      rw [hl] at this
      rw [inR11.2 ⟨by omega, by omega⟩] at hrg
      cases hrg
    have HF := Lib.hid hF; clear hr hl hs hF
    go_enter Tryz.func44, Tryz.ntmps44
    go_wp2_with fail
    refine (HIN.out _).mono ?_
    rintro e w1 ⟨rfl, rfl⟩
    rw [hrg]
    go_wp2_with fail
    go_ret
    rw [HF.out]
    exact ⟨rfl, Below.refl _ _⟩
  have HL := Lib.hid hl
  have HR := Lib.hid hr
  have HS := Lib.hid hs
  have HN := Lib.hid (show 1 ≤ n ∧ n ≤ 16 by have := inR11.1 hrg; omega)
  clear hl hr hs
  go_enter Tryz.func44, Tryz.ntmps44
  go_wp2_with fail
  refine (HIN.out _).mono ?_
  rintro e w1 ⟨rfl, rfl⟩
  rw [hrg]
  clear hrg HIN
  go_wp2_with fail
  go_loopw [3] (fun i wr => ∃ k : Nat, k ≤ n ∧ i = .int .i64 k ∧ Below w.heap.size w wr ∧ Hid (∀ i, i < k → isMd (mds cs).length i (mdOf (mds cs) i) = true)) (fun i _ => n - (intOf i).toNat)
  case atStart => exact ⟨0, Nat.zero_le _, rfl, Below.refl _ _, fun i h => absurd h (by omega)⟩
  case round =>
    obtain ⟨k, hk, rfl, hb, hall⟩ := hrel
    by_cases hlt : k < n
    · obtain ⟨g, off, rfl, hg, hx, hrd⟩ := HR.out.at hlt
      replace hx := hx.below hb hg
      replace hrd := hrd.below hb
      have hkt : k < cs.length := by rw [HR.out.len]; exact hlt
      have hsm := HS.out _ (mcOf_mem hkt)
      have hno : isMd n k (mcOf cs k).md = false → isModes (mds cs) = false := fun h => modes_no (k := k) (by rw [mds_len]; exact hkt) (by rw [HL.out, mdOf_mds]; exact h)
      have hyes : isMd n k (mcOf cs k).md = true → ∀ i, i < k + 1 → isMd (mds cs).length i (mdOf (mds cs) i) = true := fun h => okM_next hall.out (by rw [HL.out, mdOf_mds]; exact h)
      generalize mcOf cs k = c at hx hrd hsm hno hyes
      have HNO := Lib.hid hno; have HYES := Lib.hid hyes; have HB0 := Lib.hid hb
      clear hno hyes hb hkt hall
      obtain ⟨⟨r, s, xs⟩, xo, xc⟩ := c
      obtain ⟨h0, h1, h2⟩ := hx
      have hrr := hrd.rd
      dsimp only at h0 h1 h2 hrr hsm
      have hb1 := (Below.refl wr.heap.size wr).alloc (Nat.le_refl _) (.cells #[.int .i64 r, .int .i64 s, .slice xo xs.length xc] 37)
      have HB1 := Lib.hid (below_two HB0.out hb1)
      have HRR := Lib.hid (hrr.below hb1)
      have HIDX := Lib.hid (l01Rises_any xo xs.length xc xs n _ (hrr.below hb1) (by omega) (by omega) (by omega))
      have HMD := Lib.hid (show isMd n k ⟨r, s, xs⟩ = (inRange 1 8 r && (inRange 1 16 s && (rises (n : Int) xs && !decide ((k : Int) ∈ xs)))) from rfl)
      have hat := McAt.new (T := 37) (c := ⟨⟨r, s, xs⟩, xo, xc⟩) wr
      have HAT := Lib.hid hat
      clear hb1 hrd hrr HB0 hat
      have HSM := Lib.hid hsm; clear hsm
      rcases hc1 : inRange 1 8 r with _ | _
      · have HF := Lib.hid (HNO.out (by rw [HMD.out, hc1]; rfl))
        go_wp2_with fail
        refine (l01In_any r 1 8 _).mono ?_
        rintro e w2 ⟨rfl, rfl⟩
        rw [hc1]
        clear h0 h1 h2
        go_wp2_with fail
        go_ret
        rw [HF.out]
        exact ⟨rfl, HB1.out⟩
      rcases hc2 : inRange 1 16 s with _ | _
      · have HF := Lib.hid (HNO.out (by rw [HMD.out, hc1, hc2]; rfl))
        go_wp2_with fail
        refine (l01In_any r 1 8 _).mono ?_
        rintro e w2 ⟨rfl, rfl⟩
        rw [hc1]
        clear h0 h1 h2
        go_wp2_with fail
        refine (l01In_any s 1 16 _).mono ?_
        rintro e w2 ⟨rfl, rfl⟩
        rw [hc2]
        go_wp2_with fail
        go_ret
        rw [HF.out]
        exact ⟨rfl, HB1.out⟩
      rcases hri : rises (n : Int) xs with _ | _
      · have HF := Lib.hid (HNO.out (by rw [HMD.out, hc1, hc2, hri]; rfl))
        go_wp2_with fail
        refine (l01In_any r 1 8 _).mono ?_
        rintro e w2 ⟨rfl, rfl⟩
        rw [hc1]
        clear h0 h1 h2
        go_wp2_with fail
        refine (l01In_any s 1 16 _).mono ?_
        rintro e w2 ⟨rfl, rfl⟩
        rw [hc2]
        go_wp2_with fail
        refine HIDX.out.mono ?_
        rintro e w2 ⟨rfl, b2⟩
        rw [hri]
        have HB2 := Lib.hid (below_two HB1.out b2)
        go_wp2_with fail
        go_ret
        rw [HF.out]
        exact ⟨rfl, HB2.out⟩
      rcases hco : decide ((k : Int) ∈ xs) with _ | _
      · have HF := Lib.hid (HYES.out (by rw [HMD.out, hc1, hc2, hri, hco]; rfl))
        go_wp2_with fail
        refine (l01In_any r 1 8 _).mono ?_
        rintro e w2 ⟨rfl, rfl⟩
        rw [hc1]
        clear h0 h1 h2
        go_wp2_with fail
        refine (l01In_any s 1 16 _).mono ?_
        rintro e w2 ⟨rfl, rfl⟩
        rw [hc2]
        go_wp2_with fail
        refine HIDX.out.mono ?_
        rintro e w2 ⟨rfl, b2⟩
        rw [hri]
        obtain ⟨-, -, d2⟩ := (HAT.out.below b2 HAT.out.lt).in_
        have HB2 := Lib.hid (below_two HB1.out b2)
        have HR2 := Lib.hid (HRR.out.below b2)
        clear b2
        go_wp2_with fail
        refine (l01Has_any _ _ _ xs k _ HR2.out (by have := HSM.out; omega)).mono ?_
        rintro e w3 ⟨rfl, rfl⟩
        rw [hco]
        go_wp2_with fail
        go_roundw
        case rel => exact ⟨k + 1, by omega, by go_num, HB2.out, HF⟩
        case measure => simp [intOf]; omega
      · have HF := Lib.hid (HNO.out (by rw [HMD.out, hc1, hc2, hri, hco]; rfl))
        go_wp2_with fail
        refine (l01In_any r 1 8 _).mono ?_
        rintro e w2 ⟨rfl, rfl⟩
        rw [hc1]
        clear h0 h1 h2
        go_wp2_with fail
        refine (l01In_any s 1 16 _).mono ?_
        rintro e w2 ⟨rfl, rfl⟩
        rw [hc2]
        go_wp2_with fail
        refine HIDX.out.mono ?_
        rintro e w2 ⟨rfl, b2⟩
        rw [hri]
        obtain ⟨-, -, d2⟩ := (HAT.out.below b2 HAT.out.lt).in_
        have HB2 := Lib.hid (below_two HB1.out b2)
        have HR2 := Lib.hid (HRR.out.below b2)
        clear b2
        go_wp2_with fail
        refine (l01Has_any _ _ _ xs k _ HR2.out (by have := HSM.out; omega)).mono ?_
        rintro e w3 ⟨rfl, rfl⟩
        rw [hco]
        go_wp2_with fail
        go_ret
        rw [HF.out]
        exact ⟨rfl, HB2.out⟩
    · have hkn : k = n := by omega
      subst hkn
      have HF := Lib.hid (show isModes (mds cs) = true from isModes_iff.2 ⟨by rw [HL.out]; exact HN.out, by rw [HL.out]; rw [HL.out] at hall; exact hall.out⟩)
      have HB := Lib.hid hb; clear hb hall
      go_wp2_with fail
      go_ret
      rw [HF.out]
      exact ⟨rfl, HB.out⟩
end
end Go.Proofs.YtljdkckoelgkbaaGreat
