/-
  Chapter 8: DescriptorFromBytes of the program.
-/
import Derived.Test.YtjejflngaelgkaaD6
import Derived.Test.YtjejflngaelgkaaFourA
import Derived.Test.YtjejflngaelgkaaSixD
import Derived.Deep.RegionHeld3
namespace Go.Proofs.Ytjejflngaelgkaa
open Go.RowKit

def setDesc (w : World) (b : Nat) (n a z u : Int) (c : Bool) : World := ((((w.setCell ⟨b, 0, none⟩ (.int .i64 n)).setCell ⟨b, 1, none⟩ (.int .i64 a)).setCell ⟨b, 2, none⟩ (.int .i64 z)).setCell ⟨b, 3, none⟩ (.int .i64 u)).setCell ⟨b, 4, none⟩ (.bool c)
theorem DescAt.five {T b : Nat} {w : World} {n a z u : Int} {c : Bool} (h : DescAt T w b n a z u c) (n' a' z' u' : Int) (c' : Bool) : DescAt T (setDesc w b n' a' z' u' c') b n' a' z' u' c' := ((((h.set0 n').set1 a').set2 z').set3 u').set4 c'
theorem below_desc {B b : Nat} {w : World} (hb : B ≤ b) (n a z u : Int) (c : Bool) : Below B w (setDesc w b n a z u c) := ((((((Below.refl _ _).setCell hb _).setCell hb _).setCell hb _).setCell hb _).setCell hb _)
/-- While the numbers are read: the result, still the zero value, and the descriptor so far. -/
structure ReadLp (w wr : World) (d : Ds) : Prop where
  res : DescAt 25 wr w.heap.size 0 0 0 0 false
  var : DescAt 25 wr (w.heap.size + 1) d.node d.kind d.size d.dur d.chg
  below : Below w.heap.size w wr
theorem ReadLp.call {w wr wi : World} {d : Ds} (h : ReadLp w wr d) (b : Below wr.heap.size wr wi) : ReadLp w wi d := ⟨h.res.below b h.res.lt, h.var.below b h.var.lt, below_two h.below b⟩
theorem ReadLp.mut {w wr wi : World} {d : Ds} {n a z u : Int} {c : Bool} (h : ReadLp w wr d) (hv : DescAt 25 wi (w.heap.size + 1) n a z u c) (g : wr.grownBy wi (some (w.heap.size + 1))) : ReadLp w wi ⟨n, a, z, u, c⟩ :=
  ⟨h.res.grown g (by simp), hv, only_below h.below g h.below.size (by intro k e; cases e; omega)⟩
theorem ReadLp.fin {w wr : World} {d : Ds} (h : ReadLp w wr d) (n a z u : Int) (c : Bool) : DescAt 25 (setDesc wr w.heap.size n a z u c) w.heap.size n a z u c ∧ Below w.heap.size w (setDesc wr w.heap.size n a z u c) :=
  ⟨h.res.five n a z u c, h.below.trans (below_desc (Nat.le_refl _) n a z u c)⟩
/-- What has been read behind k numbers. -/
def readDs (x0 y1 y2 y3 y4 : Int) (y5 : Bool) (k : Nat) : Ds :=
  match k with
  | 0 => ⟨0, 0, 0, 0, false⟩
  | 1 => ⟨x0, 0, 0, 0, false⟩
  | 2 => ⟨x0, y1, y2, 0, false⟩
  | 3 => ⟨x0, y1, y2, y3, false⟩
  | 4 => ⟨x0, y1, y2, y4, false⟩
  | _ => ⟨x0, y1, y2, y4, y5⟩
theorem from_not5 (ao : Option Addr) (n cap : Nat) (xs : List Int) (w : World) (hn5 : n ≠ 5) (hr : Rd w ao n xs) : Calls Try.prog 19 #[.slice ao n cap] w fun e w' => e = .returned (.tuple #[.agg #[.int .i64 (descFrom xs).1.node, .int .i64 (descFrom xs).1.kind, .int .i64 (descFrom xs).1.size, .int .i64 (descFrom xs).1.dur, .bool (descFrom xs).1.chg], .int .i64 (descFrom xs).2]) ∧ Below w.heap.size w w' := by
  have hl := hr.len
  rw [descFrom_len (by omega)]
  have t1 : ((n : Int) != 5) = true := by simp; omega
  clear hl hr
  go_enter Try.func19, Try.ntmps19
  go_wp2
  exact bodyPost_ret (v := .tuple #[.agg #[.int .i64 0, .int .i64 0, .int .i64 0, .int .i64 0, .bool false], .int .i64 6]) (by simp [results, Try.results19, go_sem]) rfl ⟨rfl, (Below.refl _ _).alloc (Nat.le_refl _) _⟩
set_option maxHeartbeats 4000000 in
set_option maxRecDepth 100000 in
set_option linter.unusedSimpArgs false in
theorem from_5 (b off cap : Nat) (x0 x1 x2 x3 x4 : Int) (w : World) (hr : Rd w (some ⟨b, off, none⟩) 5 [x0, x1, x2, x3, x4]) : Calls Try.prog 19 #[.slice (some ⟨b, off, none⟩) 5 cap] w fun e w' => e = .returned (.tuple #[.agg #[.int .i64 (descFrom [x0, x1, x2, x3, x4]).1.node, .int .i64 (descFrom [x0, x1, x2, x3, x4]).1.kind, .int .i64 (descFrom [x0, x1, x2, x3, x4]).1.size, .int .i64 (descFrom [x0, x1, x2, x3, x4]).1.dur, .bool (descFrom [x0, x1, x2, x3, x4]).1.chg], .int .i64 (descFrom [x0, x1, x2, x3, x4]).2]) ∧ Below w.heap.size w w' := by
  have hcell : ∀ k, k < 5 → w.cell? ⟨b, off + k, none⟩ = some (.int .i64 ([x0, x1, x2, x3, x4].getD k 0)) := by
    obtain ⟨b', off', e, hc⟩ := hr.here (by omega)
    cases e
    exact hc
  have hblt : b < w.heap.size := World.block_lt_of_cell? w _ (hcell 0 (by omega))
  have hcW : ∀ W, Below w.heap.size w W → ∀ k, k < 5 → W.cell? ⟨b, off + k, none⟩ = some (.int .i64 ([x0, x1, x2, x3, x4].getD k 0)) := fun W hW k hk => (hW.cell (p := ⟨b, off + k, none⟩) hblt).trans (hcell k hk)
  clear hcell hblt
  have hdf : descFrom [x0, x1, x2, x3, x4] = if isDesc (descRaw x0 x1 x2 x3 x4) = true ∧ descBytes (descRaw x0 x1 x2 x3 x4) = [x0, x1, x2, x3, x4] then (descRaw x0 x1 x2 x3 x4, 0) else (Ds.zero, 6) := rfl
  unfold descRaw at hdf
  have h0 := fun (W : World) (n a z u : Int) (c : Bool) (h : DescAt 25 W (w.heap.size + 1) n a z u c) => read1 (w.heap.size + 1) n a z u c x0 W h
  have h1 := fun (W : World) (n a z u : Int) (c : Bool) (h : DescAt 25 W (w.heap.size + 1) n a z u c) => read2 (w.heap.size + 1) n a z u c x1 W h
  have h2 := fun (W : World) (n a z u : Int) (c : Bool) (h : DescAt 25 W (w.heap.size + 1) n a z u c) => read3 (w.heap.size + 1) n a z u c x2 W h
  have h3 := fun (W : World) (n a z : Int) (c : Bool) (h : DescAt 25 W (w.heap.size + 1) n a z (IntKind.i64.wrap (x2 * 256)) c) => read4 (w.heap.size + 1) n a z (IntKind.i64.wrap (x2 * 256)) c x3 W h
  have h4 := fun (W : World) (n a z u : Int) (c : Bool) (h : DescAt 25 W (w.heap.size + 1) n a z u c) => read5 (w.heap.size + 1) n a z u c x4 W h
  generalize x1 / 64 = y1 at h1 hdf
  generalize x1 % 64 = y2 at h1 hdf
  generalize IntKind.i64.wrap (x2 * 256) = y3 at h2 h3 hdf
  generalize IntKind.i64.wrap (y3 + x3) = y4 at h3 hdf
  generalize decide (x4 = 1) = y5 at h4 hdf
  have hdb := fun (W : World) => descToBytes_any x0 y1 y2 y4 y5 W
  obtain ⟨ys, cd, hyc⟩ : ∃ ys cd, descToBytes ⟨x0, y1, y2, y4, y5⟩ = (ys, cd) := ⟨_, _, rfl⟩
  rw [hyc] at hdb
  simp only at hdb
  have hyl : ys.length ≤ 5 := by
    unfold descToBytes at hyc
    split at hyc
    · simp only [Prod.mk.injEq] at hyc; rw [← hyc.1]; exact Nat.le_refl _
    · simp only [Prod.mk.injEq] at hyc; rw [← hyc.1]; exact Nat.zero_le _
  have hgood : cd = 0 → ys = [x0, x1, x2, x3, x4] → descFrom [x0, x1, x2, x3, x4] = (⟨x0, y1, y2, y4, y5⟩, 0) := by
    intro e1 e2
    unfold descToBytes at hyc
    split at hyc
    · rename_i hd
      simp only [Prod.mk.injEq] at hyc
      rw [hdf, if_pos ⟨hd, by rw [hyc.1, e2]⟩]
    · simp only [Prod.mk.injEq] at hyc; omega
  have hbad : ¬ (cd = 0 ∧ ys = [x0, x1, x2, x3, x4]) → descFrom [x0, x1, x2, x3, x4] = (Ds.zero, 6) := by
    intro hne
    rw [hdf, if_neg]
    rintro ⟨hd, he⟩
    unfold descToBytes at hyc
    rw [if_pos hd] at hyc
    simp only [Prod.mk.injEq] at hyc
    exact hne ⟨hyc.2.symm, by rw [← hyc.1, he]⟩
  have HR := Lib.hid hr; have HCW := Lib.hid hcW; have H0 := Lib.hid h0; have H1 := Lib.hid h1; have H2 := Lib.hid h2; have H3 := Lib.hid h3; have H4 := Lib.hid h4; have HDB := Lib.hid hdb; have HGOOD := Lib.hid hgood; have HBAD := Lib.hid hbad; have HYL := Lib.hid hyl
  clear hr hcW h0 h1 h2 h3 h4 hdb hgood hbad hyl hyc hdf
  go_enter Try.func19, Try.ntmps19
  go_wp2_with (go_at_call 48; refine (layout_any _).mono ?_; rintro e w3 ⟨rfl, b3⟩)
  have e1 : (w.alloc (.cells #[.int .i64 0, .int .i64 0, .int .i64 0, .int .i64 0, .bool false] 25)).heap.size = w.heap.size + 1 := by simp
  have L0 : ReadLp w ((w.alloc (.cells #[.int .i64 0, .int .i64 0, .int .i64 0, .int .i64 0, .bool false] 25)).alloc (.cells #[.int .i64 0, .int .i64 0, .int .i64 0, .int .i64 0, .bool false] 25)) (readDs x0 y1 y2 y3 y4 y5 0) := by
    have v := DescAt.new (T := 25) (n := 0) (a := 0) (z := 0) (u := 0) (c := false) (w.alloc (.cells #[.int .i64 0, .int .i64 0, .int .i64 0, .int .i64 0, .bool false] 25))
    rw [e1] at v
    have r : DescAt 25 (w.alloc (.cells #[.int .i64 0, .int .i64 0, .int .i64 0, .int .i64 0, .bool false] 25)) w.heap.size 0 0 0 0 false := DescAt.new w
    exact ⟨r.below ((Below.refl _ _).alloc (Nat.le_refl _) _) r.lt, v, ((Below.refl _ _).alloc (Nat.le_refl _) _).alloc (by simp) _⟩
  replace L0 := Lib.hid (L0.call b3)
  clear e1 b3
  go_loopw [14] (fun i wr => ∃ k : Nat, k ≤ 5 ∧ i = .int .i64 k ∧ Hid (ReadLp w wr (readDs x0 y1 y2 y3 y4 y5 k))) (fun i _ => 5 - (intOf i).toNat)
  case atStart => exact ⟨0, by omega, rfl, L0⟩
  case round =>
    clear L0
    obtain ⟨k, hk, hi, H⟩ := hrel
    have hk6 : k = 0 ∨ k = 1 ∨ k = 2 ∨ k = 3 ∨ k = 4 ∨ k = 5 := by omega
    clear hk
    rcases hk6 with rfl | rfl | rfl | rfl | rfl | rfl
    · replace hi : _ = Value.int .i64 0 := hi
      subst hi
      have hix := layout_at0
      go_upto_region 7 with fail
      clear hix
      have L4 := Lib.hid (H.out.call ((Below.refl wr.heap.size wr).alloc (Nat.le_refl _) (.cells #[.func (.func 73) #[] #[], .func (.func 74) #[] #[]] 74)))
      have F4 : (wr.alloc (.cells #[.func (.func 73) #[] #[], .func (.func 74) #[] #[]] 74)).cell? ⟨wr.heap.size, 1, none⟩ = some (.func (.func 74) #[] #[]) := cell_of_row _ wr.heap.size 1 _ _ (0, 0) (heap_alloc_new wr _)
      have hQ : w.heap.size + 1 < wr.heap.size := H.out.var.lt
      clear H
      obtain ⟨J, hJ⟩ : ∃ J, J = wr.heap.size := ⟨_, rfl⟩
      rw [← hJ] at F4 hQ ⊢
      clear hJ
      generalize wr.alloc (.cells #[.func (.func 73) #[] #[], .func (.func 74) #[] #[]] 74) = w4 at L4 F4 ⊢
      have L5 : Hid (ReadLp w w4.drew (readDs x0 y1 y2 y3 y4 y5 0)) := Lib.hid (L4.out.call (Below.drew (Below.refl _ _)))
      have F5 : w4.drew.cell? ⟨J, 1, none⟩ = some (.func (.func 74) #[] #[]) := F4
      clear L4
      have hx : ∀ W, Below w.heap.size w W → W.cell? ⟨b, off, none⟩ = some (.int .i64 x0) := fun W hW => HCW.out W hW 0 (by omega)
      have HX := Lib.hid hx; clear hx
      refine wp_region_held_drew (S := fun w' => w'.cell? ⟨J, 1, none⟩ = some (.func (.func 74) #[] #[]) ∧ w'.cell? ⟨b, off, none⟩ = some (.int .i64 x0)) (by kernel_rfl) (⟨F5, HX.out _ L5.out.below⟩) (fun hHeld => ?_)
      generalize w4.drew = w5 at L5 F5 hHeld ⊢
      refine wpAnyH_take (i := 0) (v := ?_) rfl (by kernel_rfl) (by kernel_rfl) (by kernel_rfl) (fun _ _ _ h => h) (Or.inl ⟨by rfl, ?_⟩) (by assumption) ?_
      rotate_left
      · (intro w hSw; (try dsimp only at hSw); go_simp; (try with_reducible rfl))
      try simp only [List.getElem_toArray, List.getElem_cons_succ, List.getElem_cons_zero, Act.put, List.setIfInBounds_toArray, List.set_cons_zero, List.set_cons_succ]
      refine wpAnyH_take (i := 1) (v := ?_) rfl (by kernel_rfl) (by kernel_rfl) (by kernel_rfl) (fun _ _ _ h => h) (Or.inl ⟨by rfl, ?_⟩) (by assumption) ?_
      rotate_left
      · (intro w hSw; (try dsimp only at hSw); go_simp; (try with_reducible rfl))
      try simp only [List.getElem_toArray, List.getElem_cons_succ, List.getElem_cons_zero, Act.put, List.setIfInBounds_toArray, List.set_cons_zero, List.set_cons_succ]
      refine wpAnyH_take (i := 2) (v := ?_) rfl (by kernel_rfl) (by kernel_rfl) (by kernel_rfl) (fun _ _ _ h => h) (Or.inl ⟨by rfl, ?_⟩) (by assumption) ?_
      rotate_left
      · (intro w hSw; (try dsimp only at hSw); go_simp; (try with_reducible rfl))
      try simp only [List.getElem_toArray, List.getElem_cons_succ, List.getElem_cons_zero, Act.put, List.setIfInBounds_toArray, List.set_cons_zero, List.set_cons_succ]
      refine wpAnyH_take (i := 3) (v := ?_) rfl (by kernel_rfl) (by kernel_rfl) (by kernel_rfl) (fun _ _ _ h => h) (Or.inl ⟨by rfl, ?_⟩) (by assumption) ?_
      rotate_left
      · (intro w hSw; (try dsimp only at hSw); go_simp; (try with_reducible rfl))
      try simp only [List.getElem_toArray, List.getElem_cons_succ, List.getElem_cons_zero, Act.put, List.setIfInBounds_toArray, List.set_cons_zero, List.set_cons_succ]
      refine wpAnyH_take (i := 4) (v := ?_) rfl (by kernel_rfl) (by kernel_rfl) (by kernel_rfl) (fun _ _ _ h => h) (Or.inl ⟨by rfl, ?_⟩) (by assumption) ?_
      rotate_left
      · (intro w hSw; (try dsimp only at hSw); go_simp; (try with_reducible rfl))
      try simp only [List.getElem_toArray, List.getElem_cons_succ, List.getElem_cons_zero, Act.put, List.setIfInBounds_toArray, List.set_cons_zero, List.set_cons_succ]
      refine wpAnyH_take (i := 5) (v := ?_) rfl (by kernel_rfl) (by kernel_rfl) (by kernel_rfl) (fun _ _ _ h => h) (Or.inl ⟨by rfl, ?_⟩) (by assumption) ?_
      rotate_left
      · (intro w hSw; (try dsimp only at hSw); go_simp; (try with_reducible rfl))
      try simp only [List.getElem_toArray, List.getElem_cons_succ, List.getElem_cons_zero, Act.put, List.setIfInBounds_toArray, List.set_cons_zero, List.set_cons_succ]
      refine wpAnyH_ready (rs := [6]) (by kernel_rfl) (by simp) (AllReadyH.cons rfl (fun K hK => ?_) AllReadyH.nil)
      go_simp
      refine (H0.out _ 0 0 0 0 false L5.out.var).mono ?_
      rintro e w6 ⟨rfl, v6, g6⟩
      have L6 : ReadLp w w6 (readDs x0 y1 y2 y3 y4 y5 1) := L5.out.mut v6 g6
      have F6 : w6.cell? ⟨J, 1, none⟩ = some (.func (.func 74) #[] #[]) := g6.cell F5 (by simp; omega)
      replace L6 := Lib.hid L6
      clear v6 g6 F5 L5
      go_wp2_with fail
      refine hK.out _ _ ?_ (fun hHeld => ?_)
      · exact ⟨F6, HX.out _ L6.out.below⟩
      clear hK K
      try simp only [List.getElem_toArray, List.getElem_cons_succ, List.getElem_cons_zero, Act.put, List.setIfInBounds_toArray, List.set_cons_zero, List.set_cons_succ]
      refine wpAnyH_done (by kernel_rfl) ?_ _
      go_wp2_with fail
      go_roundw
      case rel => exact ⟨1, by omega, rfl, L6⟩
      case measure => simp [intOf]
    · replace hi : _ = Value.int .i64 1 := hi
      subst hi
      have hix := layout_at1
      go_upto_region 7 with fail
      clear hix
      have L4 := Lib.hid (H.out.call ((Below.refl wr.heap.size wr).alloc (Nat.le_refl _) (.cells #[.func (.func 75) #[] #[], .func (.func 76) #[] #[]] 74)))
      have F4 : (wr.alloc (.cells #[.func (.func 75) #[] #[], .func (.func 76) #[] #[]] 74)).cell? ⟨wr.heap.size, 1, none⟩ = some (.func (.func 76) #[] #[]) := cell_of_row _ wr.heap.size 1 _ _ (0, 0) (heap_alloc_new wr _)
      have hQ : w.heap.size + 1 < wr.heap.size := H.out.var.lt
      clear H
      obtain ⟨J, hJ⟩ : ∃ J, J = wr.heap.size := ⟨_, rfl⟩
      rw [← hJ] at F4 hQ ⊢
      clear hJ
      generalize wr.alloc (.cells #[.func (.func 75) #[] #[], .func (.func 76) #[] #[]] 74) = w4 at L4 F4 ⊢
      have L5 : Hid (ReadLp w w4.drew (readDs x0 y1 y2 y3 y4 y5 1)) := Lib.hid (L4.out.call (Below.drew (Below.refl _ _)))
      have F5 : w4.drew.cell? ⟨J, 1, none⟩ = some (.func (.func 76) #[] #[]) := F4
      clear L4
      have hx : ∀ W, Below w.heap.size w W → W.cell? ⟨b, off + 1, none⟩ = some (.int .i64 x1) := fun W hW => HCW.out W hW 1 (by omega)
      have HX := Lib.hid hx; clear hx
      refine wp_region_held_drew (S := fun w' => w'.cell? ⟨J, 1, none⟩ = some (.func (.func 76) #[] #[]) ∧ w'.cell? ⟨b, off + 1, none⟩ = some (.int .i64 x1)) (by kernel_rfl) (⟨F5, HX.out _ L5.out.below⟩) (fun hHeld => ?_)
      generalize w4.drew = w5 at L5 F5 hHeld ⊢
      refine wpAnyH_take (i := 0) (v := ?_) rfl (by kernel_rfl) (by kernel_rfl) (by kernel_rfl) (fun _ _ _ h => h) (Or.inl ⟨by rfl, ?_⟩) (by assumption) ?_
      rotate_left
      · (intro w hSw; (try dsimp only at hSw); go_simp; (try with_reducible rfl))
      try simp only [List.getElem_toArray, List.getElem_cons_succ, List.getElem_cons_zero, Act.put, List.setIfInBounds_toArray, List.set_cons_zero, List.set_cons_succ]
      refine wpAnyH_take (i := 1) (v := ?_) rfl (by kernel_rfl) (by kernel_rfl) (by kernel_rfl) (fun _ _ _ h => h) (Or.inl ⟨by rfl, ?_⟩) (by assumption) ?_
      rotate_left
      · (intro w hSw; (try dsimp only at hSw); go_simp; (try with_reducible rfl))
      try simp only [List.getElem_toArray, List.getElem_cons_succ, List.getElem_cons_zero, Act.put, List.setIfInBounds_toArray, List.set_cons_zero, List.set_cons_succ]
      refine wpAnyH_take (i := 2) (v := ?_) rfl (by kernel_rfl) (by kernel_rfl) (by kernel_rfl) (fun _ _ _ h => h) (Or.inl ⟨by rfl, ?_⟩) (by assumption) ?_
      rotate_left
      · (intro w hSw; (try dsimp only at hSw); go_simp; (try with_reducible rfl))
      try simp only [List.getElem_toArray, List.getElem_cons_succ, List.getElem_cons_zero, Act.put, List.setIfInBounds_toArray, List.set_cons_zero, List.set_cons_succ]
      refine wpAnyH_take (i := 3) (v := ?_) rfl (by kernel_rfl) (by kernel_rfl) (by kernel_rfl) (fun _ _ _ h => h) (Or.inl ⟨by rfl, ?_⟩) (by assumption) ?_
      rotate_left
      · (intro w hSw; (try dsimp only at hSw); go_simp; (try with_reducible rfl))
      try simp only [List.getElem_toArray, List.getElem_cons_succ, List.getElem_cons_zero, Act.put, List.setIfInBounds_toArray, List.set_cons_zero, List.set_cons_succ]
      refine wpAnyH_take (i := 4) (v := ?_) rfl (by kernel_rfl) (by kernel_rfl) (by kernel_rfl) (fun _ _ _ h => h) (Or.inl ⟨by rfl, ?_⟩) (by assumption) ?_
      rotate_left
      · (intro w hSw; (try dsimp only at hSw); go_simp; (try with_reducible rfl))
      try simp only [List.getElem_toArray, List.getElem_cons_succ, List.getElem_cons_zero, Act.put, List.setIfInBounds_toArray, List.set_cons_zero, List.set_cons_succ]
      refine wpAnyH_take (i := 5) (v := ?_) rfl (by kernel_rfl) (by kernel_rfl) (by kernel_rfl) (fun _ _ _ h => h) (Or.inl ⟨by rfl, ?_⟩) (by assumption) ?_
      rotate_left
      · (intro w hSw; (try dsimp only at hSw); go_simp; (try with_reducible rfl))
      try simp only [List.getElem_toArray, List.getElem_cons_succ, List.getElem_cons_zero, Act.put, List.setIfInBounds_toArray, List.set_cons_zero, List.set_cons_succ]
      refine wpAnyH_ready (rs := [6]) (by kernel_rfl) (by simp) (AllReadyH.cons rfl (fun K hK => ?_) AllReadyH.nil)
      go_simp
      refine (H1.out _ x0 0 0 0 false L5.out.var).mono ?_
      rintro e w6 ⟨rfl, v6, g6⟩
      have L6 : ReadLp w w6 (readDs x0 y1 y2 y3 y4 y5 2) := L5.out.mut v6 g6
      have F6 : w6.cell? ⟨J, 1, none⟩ = some (.func (.func 76) #[] #[]) := g6.cell F5 (by simp; omega)
      replace L6 := Lib.hid L6
      clear v6 g6 F5 L5
      go_wp2_with fail
      refine hK.out _ _ ?_ (fun hHeld => ?_)
      · exact ⟨F6, HX.out _ L6.out.below⟩
      clear hK K
      try simp only [List.getElem_toArray, List.getElem_cons_succ, List.getElem_cons_zero, Act.put, List.setIfInBounds_toArray, List.set_cons_zero, List.set_cons_succ]
      refine wpAnyH_done (by kernel_rfl) ?_ _
      go_wp2_with fail
      go_roundw
      case rel => exact ⟨2, by omega, rfl, L6⟩
      case measure => simp [intOf]
    · replace hi : _ = Value.int .i64 2 := hi
      subst hi
      have hix := layout_at2
      go_upto_region 7 with fail
      clear hix
      have L4 := Lib.hid (H.out.call ((Below.refl wr.heap.size wr).alloc (Nat.le_refl _) (.cells #[.func (.func 77) #[] #[], .func (.func 78) #[] #[]] 74)))
      have F4 : (wr.alloc (.cells #[.func (.func 77) #[] #[], .func (.func 78) #[] #[]] 74)).cell? ⟨wr.heap.size, 1, none⟩ = some (.func (.func 78) #[] #[]) := cell_of_row _ wr.heap.size 1 _ _ (0, 0) (heap_alloc_new wr _)
      have hQ : w.heap.size + 1 < wr.heap.size := H.out.var.lt
      clear H
      obtain ⟨J, hJ⟩ : ∃ J, J = wr.heap.size := ⟨_, rfl⟩
      rw [← hJ] at F4 hQ ⊢
      clear hJ
      generalize wr.alloc (.cells #[.func (.func 77) #[] #[], .func (.func 78) #[] #[]] 74) = w4 at L4 F4 ⊢
      have L5 : Hid (ReadLp w w4.drew (readDs x0 y1 y2 y3 y4 y5 2)) := Lib.hid (L4.out.call (Below.drew (Below.refl _ _)))
      have F5 : w4.drew.cell? ⟨J, 1, none⟩ = some (.func (.func 78) #[] #[]) := F4
      clear L4
      have hx : ∀ W, Below w.heap.size w W → W.cell? ⟨b, off + 2, none⟩ = some (.int .i64 x2) := fun W hW => HCW.out W hW 2 (by omega)
      have HX := Lib.hid hx; clear hx
      refine wp_region_held_drew (S := fun w' => w'.cell? ⟨J, 1, none⟩ = some (.func (.func 78) #[] #[]) ∧ w'.cell? ⟨b, off + 2, none⟩ = some (.int .i64 x2)) (by kernel_rfl) (⟨F5, HX.out _ L5.out.below⟩) (fun hHeld => ?_)
      generalize w4.drew = w5 at L5 F5 hHeld ⊢
      refine wpAnyH_take (i := 0) (v := ?_) rfl (by kernel_rfl) (by kernel_rfl) (by kernel_rfl) (fun _ _ _ h => h) (Or.inl ⟨by rfl, ?_⟩) (by assumption) ?_
      rotate_left
      · (intro w hSw; (try dsimp only at hSw); go_simp; (try with_reducible rfl))
      try simp only [List.getElem_toArray, List.getElem_cons_succ, List.getElem_cons_zero, Act.put, List.setIfInBounds_toArray, List.set_cons_zero, List.set_cons_succ]
      refine wpAnyH_take (i := 1) (v := ?_) rfl (by kernel_rfl) (by kernel_rfl) (by kernel_rfl) (fun _ _ _ h => h) (Or.inl ⟨by rfl, ?_⟩) (by assumption) ?_
      rotate_left
      · (intro w hSw; (try dsimp only at hSw); go_simp; (try with_reducible rfl))
      try simp only [List.getElem_toArray, List.getElem_cons_succ, List.getElem_cons_zero, Act.put, List.setIfInBounds_toArray, List.set_cons_zero, List.set_cons_succ]
      refine wpAnyH_take (i := 2) (v := ?_) rfl (by kernel_rfl) (by kernel_rfl) (by kernel_rfl) (fun _ _ _ h => h) (Or.inl ⟨by rfl, ?_⟩) (by assumption) ?_
      rotate_left
      · (intro w hSw; (try dsimp only at hSw); go_simp; (try with_reducible rfl))
      try simp only [List.getElem_toArray, List.getElem_cons_succ, List.getElem_cons_zero, Act.put, List.setIfInBounds_toArray, List.set_cons_zero, List.set_cons_succ]
      refine wpAnyH_take (i := 3) (v := ?_) rfl (by kernel_rfl) (by kernel_rfl) (by kernel_rfl) (fun _ _ _ h => h) (Or.inl ⟨by rfl, ?_⟩) (by assumption) ?_
      rotate_left
      · (intro w hSw; (try dsimp only at hSw); go_simp; (try with_reducible rfl))
      try simp only [List.getElem_toArray, List.getElem_cons_succ, List.getElem_cons_zero, Act.put, List.setIfInBounds_toArray, List.set_cons_zero, List.set_cons_succ]
      refine wpAnyH_take (i := 4) (v := ?_) rfl (by kernel_rfl) (by kernel_rfl) (by kernel_rfl) (fun _ _ _ h => h) (Or.inl ⟨by rfl, ?_⟩) (by assumption) ?_
      rotate_left
      · (intro w hSw; (try dsimp only at hSw); go_simp; (try with_reducible rfl))
      try simp only [List.getElem_toArray, List.getElem_cons_succ, List.getElem_cons_zero, Act.put, List.setIfInBounds_toArray, List.set_cons_zero, List.set_cons_succ]
      refine wpAnyH_take (i := 5) (v := ?_) rfl (by kernel_rfl) (by kernel_rfl) (by kernel_rfl) (fun _ _ _ h => h) (Or.inl ⟨by rfl, ?_⟩) (by assumption) ?_
      rotate_left
      · (intro w hSw; (try dsimp only at hSw); go_simp; (try with_reducible rfl))
      try simp only [List.getElem_toArray, List.getElem_cons_succ, List.getElem_cons_zero, Act.put, List.setIfInBounds_toArray, List.set_cons_zero, List.set_cons_succ]
      refine wpAnyH_ready (rs := [6]) (by kernel_rfl) (by simp) (AllReadyH.cons rfl (fun K hK => ?_) AllReadyH.nil)
      go_simp
      refine (H2.out _ x0 y1 y2 0 false L5.out.var).mono ?_
      rintro e w6 ⟨rfl, v6, g6⟩
      have L6 : ReadLp w w6 (readDs x0 y1 y2 y3 y4 y5 3) := L5.out.mut v6 g6
      have F6 : w6.cell? ⟨J, 1, none⟩ = some (.func (.func 78) #[] #[]) := g6.cell F5 (by simp; omega)
      replace L6 := Lib.hid L6
      clear v6 g6 F5 L5
      go_wp2_with fail
      refine hK.out _ _ ?_ (fun hHeld => ?_)
      · exact ⟨F6, HX.out _ L6.out.below⟩
      clear hK K
      try simp only [List.getElem_toArray, List.getElem_cons_succ, List.getElem_cons_zero, Act.put, List.setIfInBounds_toArray, List.set_cons_zero, List.set_cons_succ]
      refine wpAnyH_done (by kernel_rfl) ?_ _
      go_wp2_with fail
      go_roundw
      case rel => exact ⟨3, by omega, rfl, L6⟩
      case measure => simp [intOf]
    · replace hi : _ = Value.int .i64 3 := hi
      subst hi
      have hix := layout_at3
      go_upto_region 7 with fail
      clear hix
      have L4 := Lib.hid (H.out.call ((Below.refl wr.heap.size wr).alloc (Nat.le_refl _) (.cells #[.func (.func 79) #[] #[], .func (.func 80) #[] #[]] 74)))
      have F4 : (wr.alloc (.cells #[.func (.func 79) #[] #[], .func (.func 80) #[] #[]] 74)).cell? ⟨wr.heap.size, 1, none⟩ = some (.func (.func 80) #[] #[]) := cell_of_row _ wr.heap.size 1 _ _ (0, 0) (heap_alloc_new wr _)
      have hQ : w.heap.size + 1 < wr.heap.size := H.out.var.lt
      clear H
      obtain ⟨J, hJ⟩ : ∃ J, J = wr.heap.size := ⟨_, rfl⟩
      rw [← hJ] at F4 hQ ⊢
      clear hJ
      generalize wr.alloc (.cells #[.func (.func 79) #[] #[], .func (.func 80) #[] #[]] 74) = w4 at L4 F4 ⊢
      have L5 : Hid (ReadLp w w4.drew (readDs x0 y1 y2 y3 y4 y5 3)) := Lib.hid (L4.out.call (Below.drew (Below.refl _ _)))
      have F5 : w4.drew.cell? ⟨J, 1, none⟩ = some (.func (.func 80) #[] #[]) := F4
      clear L4
      have hx : ∀ W, Below w.heap.size w W → W.cell? ⟨b, off + 3, none⟩ = some (.int .i64 x3) := fun W hW => HCW.out W hW 3 (by omega)
      have HX := Lib.hid hx; clear hx
      refine wp_region_held_drew (S := fun w' => w'.cell? ⟨J, 1, none⟩ = some (.func (.func 80) #[] #[]) ∧ w'.cell? ⟨b, off + 3, none⟩ = some (.int .i64 x3)) (by kernel_rfl) (⟨F5, HX.out _ L5.out.below⟩) (fun hHeld => ?_)
      generalize w4.drew = w5 at L5 F5 hHeld ⊢
      refine wpAnyH_take (i := 0) (v := ?_) rfl (by kernel_rfl) (by kernel_rfl) (by kernel_rfl) (fun _ _ _ h => h) (Or.inl ⟨by rfl, ?_⟩) (by assumption) ?_
      rotate_left
      · (intro w hSw; (try dsimp only at hSw); go_simp; (try with_reducible rfl))
      try simp only [List.getElem_toArray, List.getElem_cons_succ, List.getElem_cons_zero, Act.put, List.setIfInBounds_toArray, List.set_cons_zero, List.set_cons_succ]
      refine wpAnyH_take (i := 1) (v := ?_) rfl (by kernel_rfl) (by kernel_rfl) (by kernel_rfl) (fun _ _ _ h => h) (Or.inl ⟨by rfl, ?_⟩) (by assumption) ?_
      rotate_left
      · (intro w hSw; (try dsimp only at hSw); go_simp; (try with_reducible rfl))
      try simp only [List.getElem_toArray, List.getElem_cons_succ, List.getElem_cons_zero, Act.put, List.setIfInBounds_toArray, List.set_cons_zero, List.set_cons_succ]
      refine wpAnyH_take (i := 2) (v := ?_) rfl (by kernel_rfl) (by kernel_rfl) (by kernel_rfl) (fun _ _ _ h => h) (Or.inl ⟨by rfl, ?_⟩) (by assumption) ?_
      rotate_left
      · (intro w hSw; (try dsimp only at hSw); go_simp; (try with_reducible rfl))
      try simp only [List.getElem_toArray, List.getElem_cons_succ, List.getElem_cons_zero, Act.put, List.setIfInBounds_toArray, List.set_cons_zero, List.set_cons_succ]
      refine wpAnyH_take (i := 3) (v := ?_) rfl (by kernel_rfl) (by kernel_rfl) (by kernel_rfl) (fun _ _ _ h => h) (Or.inl ⟨by rfl, ?_⟩) (by assumption) ?_
      rotate_left
      · (intro w hSw; (try dsimp only at hSw); go_simp; (try with_reducible rfl))
      try simp only [List.getElem_toArray, List.getElem_cons_succ, List.getElem_cons_zero, Act.put, List.setIfInBounds_toArray, List.set_cons_zero, List.set_cons_succ]
      refine wpAnyH_take (i := 4) (v := ?_) rfl (by kernel_rfl) (by kernel_rfl) (by kernel_rfl) (fun _ _ _ h => h) (Or.inl ⟨by rfl, ?_⟩) (by assumption) ?_
      rotate_left
      · (intro w hSw; (try dsimp only at hSw); go_simp; (try with_reducible rfl))
      try simp only [List.getElem_toArray, List.getElem_cons_succ, List.getElem_cons_zero, Act.put, List.setIfInBounds_toArray, List.set_cons_zero, List.set_cons_succ]
      refine wpAnyH_take (i := 5) (v := ?_) rfl (by kernel_rfl) (by kernel_rfl) (by kernel_rfl) (fun _ _ _ h => h) (Or.inl ⟨by rfl, ?_⟩) (by assumption) ?_
      rotate_left
      · (intro w hSw; (try dsimp only at hSw); go_simp; (try with_reducible rfl))
      try simp only [List.getElem_toArray, List.getElem_cons_succ, List.getElem_cons_zero, Act.put, List.setIfInBounds_toArray, List.set_cons_zero, List.set_cons_succ]
      refine wpAnyH_ready (rs := [6]) (by kernel_rfl) (by simp) (AllReadyH.cons rfl (fun K hK => ?_) AllReadyH.nil)
      go_simp
      refine (H3.out _ x0 y1 y2 false L5.out.var).mono ?_
      rintro e w6 ⟨rfl, v6, g6⟩
      have L6 : ReadLp w w6 (readDs x0 y1 y2 y3 y4 y5 4) := L5.out.mut v6 g6
      have F6 : w6.cell? ⟨J, 1, none⟩ = some (.func (.func 80) #[] #[]) := g6.cell F5 (by simp; omega)
      replace L6 := Lib.hid L6
      clear v6 g6 F5 L5
      go_wp2_with fail
      refine hK.out _ _ ?_ (fun hHeld => ?_)
      · exact ⟨F6, HX.out _ L6.out.below⟩
      clear hK K
      try simp only [List.getElem_toArray, List.getElem_cons_succ, List.getElem_cons_zero, Act.put, List.setIfInBounds_toArray, List.set_cons_zero, List.set_cons_succ]
      refine wpAnyH_done (by kernel_rfl) ?_ _
      go_wp2_with fail
      go_roundw
      case rel => exact ⟨4, by omega, rfl, L6⟩
      case measure => simp [intOf]
    · replace hi : _ = Value.int .i64 4 := hi
      subst hi
      have hix := layout_at4
      go_upto_region 7 with fail
      clear hix
      have L4 := Lib.hid (H.out.call ((Below.refl wr.heap.size wr).alloc (Nat.le_refl _) (.cells #[.func (.func 81) #[] #[], .func (.func 83) #[] #[]] 74)))
      have F4 : (wr.alloc (.cells #[.func (.func 81) #[] #[], .func (.func 83) #[] #[]] 74)).cell? ⟨wr.heap.size, 1, none⟩ = some (.func (.func 83) #[] #[]) := cell_of_row _ wr.heap.size 1 _ _ (0, 0) (heap_alloc_new wr _)
      have hQ : w.heap.size + 1 < wr.heap.size := H.out.var.lt
      clear H
      obtain ⟨J, hJ⟩ : ∃ J, J = wr.heap.size := ⟨_, rfl⟩
      rw [← hJ] at F4 hQ ⊢
      clear hJ
      generalize wr.alloc (.cells #[.func (.func 81) #[] #[], .func (.func 83) #[] #[]] 74) = w4 at L4 F4 ⊢
      have L5 : Hid (ReadLp w w4.drew (readDs x0 y1 y2 y3 y4 y5 4)) := Lib.hid (L4.out.call (Below.drew (Below.refl _ _)))
      have F5 : w4.drew.cell? ⟨J, 1, none⟩ = some (.func (.func 83) #[] #[]) := F4
      clear L4
      have hx : ∀ W, Below w.heap.size w W → W.cell? ⟨b, off + 4, none⟩ = some (.int .i64 x4) := fun W hW => HCW.out W hW 4 (by omega)
      have HX := Lib.hid hx; clear hx
      refine wp_region_held_drew (S := fun w' => w'.cell? ⟨J, 1, none⟩ = some (.func (.func 83) #[] #[]) ∧ w'.cell? ⟨b, off + 4, none⟩ = some (.int .i64 x4)) (by kernel_rfl) (⟨F5, HX.out _ L5.out.below⟩) (fun hHeld => ?_)
      generalize w4.drew = w5 at L5 F5 hHeld ⊢
      refine wpAnyH_take (i := 0) (v := ?_) rfl (by kernel_rfl) (by kernel_rfl) (by kernel_rfl) (fun _ _ _ h => h) (Or.inl ⟨by rfl, ?_⟩) (by assumption) ?_
      rotate_left
      · (intro w hSw; (try dsimp only at hSw); go_simp; (try with_reducible rfl))
      try simp only [List.getElem_toArray, List.getElem_cons_succ, List.getElem_cons_zero, Act.put, List.setIfInBounds_toArray, List.set_cons_zero, List.set_cons_succ]
      refine wpAnyH_take (i := 1) (v := ?_) rfl (by kernel_rfl) (by kernel_rfl) (by kernel_rfl) (fun _ _ _ h => h) (Or.inl ⟨by rfl, ?_⟩) (by assumption) ?_
      rotate_left
      · (intro w hSw; (try dsimp only at hSw); go_simp; (try with_reducible rfl))
      try simp only [List.getElem_toArray, List.getElem_cons_succ, List.getElem_cons_zero, Act.put, List.setIfInBounds_toArray, List.set_cons_zero, List.set_cons_succ]
      refine wpAnyH_take (i := 2) (v := ?_) rfl (by kernel_rfl) (by kernel_rfl) (by kernel_rfl) (fun _ _ _ h => h) (Or.inl ⟨by rfl, ?_⟩) (by assumption) ?_
      rotate_left
      · (intro w hSw; (try dsimp only at hSw); go_simp; (try with_reducible rfl))
      try simp only [List.getElem_toArray, List.getElem_cons_succ, List.getElem_cons_zero, Act.put, List.setIfInBounds_toArray, List.set_cons_zero, List.set_cons_succ]
      refine wpAnyH_take (i := 3) (v := ?_) rfl (by kernel_rfl) (by kernel_rfl) (by kernel_rfl) (fun _ _ _ h => h) (Or.inl ⟨by rfl, ?_⟩) (by assumption) ?_
      rotate_left
      · (intro w hSw; (try dsimp only at hSw); go_simp; (try with_reducible rfl))
      try simp only [List.getElem_toArray, List.getElem_cons_succ, List.getElem_cons_zero, Act.put, List.setIfInBounds_toArray, List.set_cons_zero, List.set_cons_succ]
      refine wpAnyH_take (i := 4) (v := ?_) rfl (by kernel_rfl) (by kernel_rfl) (by kernel_rfl) (fun _ _ _ h => h) (Or.inl ⟨by rfl, ?_⟩) (by assumption) ?_
      rotate_left
      · (intro w hSw; (try dsimp only at hSw); go_simp; (try with_reducible rfl))
      try simp only [List.getElem_toArray, List.getElem_cons_succ, List.getElem_cons_zero, Act.put, List.setIfInBounds_toArray, List.set_cons_zero, List.set_cons_succ]
      refine wpAnyH_take (i := 5) (v := ?_) rfl (by kernel_rfl) (by kernel_rfl) (by kernel_rfl) (fun _ _ _ h => h) (Or.inl ⟨by rfl, ?_⟩) (by assumption) ?_
      rotate_left
      · (intro w hSw; (try dsimp only at hSw); go_simp; (try with_reducible rfl))
      try simp only [List.getElem_toArray, List.getElem_cons_succ, List.getElem_cons_zero, Act.put, List.setIfInBounds_toArray, List.set_cons_zero, List.set_cons_succ]
      refine wpAnyH_ready (rs := [6]) (by kernel_rfl) (by simp) (AllReadyH.cons rfl (fun K hK => ?_) AllReadyH.nil)
      go_simp
      refine (H4.out _ x0 y1 y2 y4 false L5.out.var).mono ?_
      rintro e w6 ⟨rfl, v6, g6⟩
      have L6 : ReadLp w w6 (readDs x0 y1 y2 y3 y4 y5 5) := L5.out.mut v6 g6
      have F6 : w6.cell? ⟨J, 1, none⟩ = some (.func (.func 83) #[] #[]) := g6.cell F5 (by simp; omega)
      replace L6 := Lib.hid L6
      clear v6 g6 F5 L5
      go_wp2_with fail
      refine hK.out _ _ ?_ (fun hHeld => ?_)
      · exact ⟨F6, HX.out _ L6.out.below⟩
      clear hK K
      try simp only [List.getElem_toArray, List.getElem_cons_succ, List.getElem_cons_zero, Act.put, List.setIfInBounds_toArray, List.set_cons_zero, List.set_cons_succ]
      refine wpAnyH_done (by kernel_rfl) ?_ _
      go_wp2_with fail
      go_roundw
      case rel => exact ⟨5, by omega, rfl, L6⟩
      case measure => simp [intOf]
    · replace hi : _ = Value.int .i64 5 := hi
      subst hi
      have hd := H.out.var
      have d0 : wr.cell? ⟨w.heap.size + 1, 0, none⟩ = some (.int .i64 x0) := hd.c0
      have d1 : wr.cell? ⟨w.heap.size + 1, 1, none⟩ = some (.int .i64 y1) := hd.c1
      have d2 : wr.cell? ⟨w.heap.size + 1, 2, none⟩ = some (.int .i64 y2) := hd.c2
      have d3 : wr.cell? ⟨w.heap.size + 1, 3, none⟩ = some (.int .i64 y4) := hd.c3
      have d4 : wr.cell? ⟨w.heap.size + 1, 4, none⟩ = some (.bool y5) := hd.c4
      clear hd
      by_cases hcd : cd = 0
      rotate_left
      · have hz := HBAD.out (fun h => hcd h.1)
        have HZ := Lib.hid hz; clear hz
        have t1 : (cd != 0) = true := by simp [hcd]
        go_wp2_with (go_at_call 14; refine (HDB.out _).mono ?_; rintro e w6 m6; obtain ⟨p6, c6, rfl, o6, r6, b6⟩ := m6.get; clear m6; have L6 := Lib.hid (H.out.call b6); have O6 := Lib.hid o6; have R6 := Lib.hid r6; clear o6 r6 b6; have q0 := L6.out.res.c0; have q1 := L6.out.res.c1; have q2 := L6.out.res.c2; have q3 := L6.out.res.c3; have q4 := L6.out.res.c4; have f0 := L6.out.res.f 0; have f1 := L6.out.res.f 1; have f2 := L6.out.res.f 2; have f3 := L6.out.res.f 3; have f4 := L6.out.res.f 4)
        obtain ⟨SF, BF⟩ := L6.out.fin 0 0 0 0 false
        change bodyPost _ _ _ _ _ (setDesc w6 w.heap.size 0 0 0 0 false)
        clear q0 q1 q2 q3 q4 f0 f1 f2 f3 f4
        generalize setDesc w6 w.heap.size 0 0 0 0 false = wz at SF BF ⊢
        have e0 := SF.c0; have e1 := SF.c1; have e2 := SF.c2; have e3 := SF.c3; have e4 := SF.c4
        clear SF
        exact bodyPost_ret (v := .tuple #[.agg #[.int .i64 0, .int .i64 0, .int .i64 0, .int .i64 0, .bool false], .int .i64 6]) (by simp [results, Try.results19, go_sem, e0, e1, e2, e3, e4]) rfl ⟨by rw [HZ.out]; rfl, BF⟩
      by_cases hys : ys = [x0, x1, x2, x3, x4]
      rotate_left
      · have hz := HBAD.out (fun h => hys h.2)
        have HZ := Lib.hid hz; clear hz
        have hdc : decide (ys = [x0, x1, x2, x3, x4]) = false := decide_eq_false hys
        have HDC := Lib.hid hdc; clear hdc hys
        have t1 : (cd != 0) = false := by simp [hcd]
        go_wp2_with (first | (go_at_call 14; refine (HDB.out _).mono ?_; rintro e w6 m6; obtain ⟨p6, c6, rfl, o6, r6, b6⟩ := m6.get; clear m6; have L6 := Lib.hid (H.out.call b6); have O6 := Lib.hid o6; have R6 := Lib.hid r6; clear o6 r6 b6) | (go_at_call 53; refine (equal_any _ _ _ _ _ _ _ _ _ R6.out (HR.out.keep (fun b o hlt => L6.out.below.cell (p := ⟨b, o, none⟩) hlt)) (by have := HYL.out; omega) (by omega)).mono ?_; rintro e w7 ⟨rfl, q7, rfl⟩; rw [HDC.out]; have L7 := Lib.hid (L6.out.call (below_drewN' (Below.refl _ _) q7)); have q0 := L7.out.res.c0; have q1 := L7.out.res.c1; have q2 := L7.out.res.c2; have q3 := L7.out.res.c3; have q4 := L7.out.res.c4; have f0 := L7.out.res.f 0; have f1 := L7.out.res.f 1; have f2 := L7.out.res.f 2; have f3 := L7.out.res.f 3; have f4 := L7.out.res.f 4))
        obtain ⟨SF, BF⟩ := L7.out.fin 0 0 0 0 false
        change bodyPost _ _ _ _ _ (setDesc (w6.drewN q7) w.heap.size 0 0 0 0 false)
        clear q0 q1 q2 q3 q4 f0 f1 f2 f3 f4
        generalize setDesc (w6.drewN q7) w.heap.size 0 0 0 0 false = wz at SF BF ⊢
        have e0 := SF.c0; have e1 := SF.c1; have e2 := SF.c2; have e3 := SF.c3; have e4 := SF.c4
        clear SF
        exact bodyPost_ret (v := .tuple #[.agg #[.int .i64 0, .int .i64 0, .int .i64 0, .int .i64 0, .bool false], .int .i64 6]) (by simp [results, Try.results19, go_sem, e0, e1, e2, e3, e4]) rfl ⟨by rw [HZ.out]; rfl, BF⟩
      have hz := HGOOD.out hcd hys
      have HZ := Lib.hid hz; clear hz
      have hdc : decide (ys = [x0, x1, x2, x3, x4]) = true := decide_eq_true hys
      have HDC := Lib.hid hdc; clear hdc hys
      have t1 : (cd != 0) = false := by simp [hcd]
      go_wp2_with (first | (go_at_call 14; refine (HDB.out _).mono ?_; rintro e w6 m6; obtain ⟨p6, c6, rfl, o6, r6, b6⟩ := m6.get; clear m6; have L6 := Lib.hid (H.out.call b6); have O6 := Lib.hid o6; have R6 := Lib.hid r6; clear o6 r6 b6) | (go_at_call 53; refine (equal_any _ _ _ _ _ _ _ _ _ R6.out (HR.out.keep (fun b o hlt => L6.out.below.cell (p := ⟨b, o, none⟩) hlt)) (by have := HYL.out; omega) (by omega)).mono ?_; rintro e w7 ⟨rfl, q7, rfl⟩; rw [HDC.out]; have L7 := Lib.hid (L6.out.call (below_drewN' (Below.refl _ _) q7)); have q0 := L7.out.res.c0; have q1 := L7.out.res.c1; have q2 := L7.out.res.c2; have q3 := L7.out.res.c3; have q4 := L7.out.res.c4; have f0 := L7.out.res.f 0; have f1 := L7.out.res.f 1; have f2 := L7.out.res.f 2; have f3 := L7.out.res.f 3; have f4 := L7.out.res.f 4; have hd := L7.out.var; have k0 : (w6.drewN q7).cell? ⟨w.heap.size + 1, 0, none⟩ = some (.int .i64 x0) := hd.c0; have k1 : (w6.drewN q7).cell? ⟨w.heap.size + 1, 1, none⟩ = some (.int .i64 y1) := hd.c1; have k2 : (w6.drewN q7).cell? ⟨w.heap.size + 1, 2, none⟩ = some (.int .i64 y2) := hd.c2; have k3 : (w6.drewN q7).cell? ⟨w.heap.size + 1, 3, none⟩ = some (.int .i64 y4) := hd.c3; have k4 : (w6.drewN q7).cell? ⟨w.heap.size + 1, 4, none⟩ = some (.bool y5) := hd.c4; clear hd))
      clear k0 k1 k2 k3 k4
      obtain ⟨SF, BF⟩ := L7.out.fin x0 y1 y2 y4 y5
      change bodyPost _ _ _ _ _ (setDesc (w6.drewN q7) w.heap.size x0 y1 y2 y4 y5)
      clear q0 q1 q2 q3 q4 f0 f1 f2 f3 f4
      generalize setDesc (w6.drewN q7) w.heap.size x0 y1 y2 y4 y5 = wz at SF BF ⊢
      have e0 := SF.c0; have e1 := SF.c1; have e2 := SF.c2; have e3 := SF.c3; have e4 := SF.c4
      clear SF
      exact bodyPost_ret (v := .tuple #[.agg #[.int .i64 x0, .int .i64 y1, .int .i64 y2, .int .i64 y4, .bool y5], .int .i64 0]) (by simp [results, Try.results19, go_sem, e0, e1, e2, e3, e4]) rfl ⟨by rw [HZ.out], BF⟩
theorem descFromBytes_any (ao : Option Addr) (n cap : Nat) (xs : List Int) (w : World) (hr : Rd w ao n xs) (hn : n ≤ 9223372036854775807) : Calls Try.prog 19 #[.slice ao n cap] w fun e w' => e = .returned (.tuple #[.agg #[.int .i64 (descFrom xs).1.node, .int .i64 (descFrom xs).1.kind, .int .i64 (descFrom xs).1.size, .int .i64 (descFrom xs).1.dur, .bool (descFrom xs).1.chg], .int .i64 (descFrom xs).2]) ∧ Below w.heap.size w w' := by
  by_cases h5 : n = 5
  · subst h5
    obtain ⟨x0, x1, x2, x3, x4, rfl⟩ := list_five hr.len
    obtain ⟨b, off, rfl, -⟩ := hr.here (by omega)
    exact from_5 b off cap x0 x1 x2 x3 x4 w hr
  · exact from_not5 ao n cap xs w h5 hr
end Go.Proofs.Ytjejflngaelgkaa
