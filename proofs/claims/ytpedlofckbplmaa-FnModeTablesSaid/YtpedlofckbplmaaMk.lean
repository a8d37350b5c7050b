/-
  Chapter 11: the model draws also what is no mode table.
-/
import Derived.Test.YtpedlofckbplmaaMj
namespace Go.Proofs.Ytpedlofckbplmaa
open Go.RowKit

def anyMc (cs : List Mc) : Prop := cs.length ≤ 17 ∧ ∀ c ∈ cs, c.md.next.length ≤ 5
/-- What a draw of a table, or of what is none, leaves. -/
def DrawnMR (w : World) (p : Nat) (e : Ending) (w' : World) : Prop :=
  ∃ ao n cap cs, e = .returned (.slice ao n cap) ∧ RdM w' ao n cs ∧ LowM w.heap.size ao cs ∧ anyMc cs ∧ Src 107 w' p ∧ w.grownBy w' (some p)
/-- The same; and what is known of the capacity. -/
def DrawnMC (w : World) (p : Nat) (e : Ending) (w' : World) : Prop :=
  ∃ ao n cap cs, e = .returned (.slice ao n cap) ∧ RdM w' ao n cs ∧ LowM w.heap.size ao cs ∧ anyMc cs ∧ Src 107 w' p ∧ w.grownBy w' (some p) ∧ n ≤ cap ∧ cap ≤ 9223372036854775807
theorem anyMc_set {cs : List Mc} {k : Nat} {y : Mc} (h : anyMc cs) (hy : y.md.next.length ≤ 5) : anyMc (cs.set k y) :=
  ⟨by rw [List.length_set]; exact h.1, fun c hc => by
    rcases List.mem_or_eq_of_mem_set hc with hc | rfl
    · exact h.2 c hc
    · exact hy⟩
theorem three_ints {cs : Array Value} {a b c : Int} (h : cs = #[.int .i64 a, .int .i64 b, .int .i64 c]) {z : Nat} (hz : z < 3) : ∃ v : Int, cs[z]? = some (.int .i64 v) := by
  subst h
  match z, hz with
  | 0, _ => exact ⟨_, rfl⟩
  | 1, _ => exact ⟨_, rfl⟩
  | 2, _ => exact ⟨_, rfl⟩
/-- A literal's block. -/
def LitAt (E : Nat) (w : World) (b : Nat) (cs : Array Value) : Prop := w.heap[b]? = some (.cells cs E (0, 0))
section
variable {w w' : World} {E EI base g n cap p b : Nat} {cs : List Mc} {lits : Array Value}
theorem LitAt.new (w : World) : LitAt E (w.alloc (.cells lits E)) w.heap.size lits := heap_alloc_new w _
theorem LitAt.lt (h : LitAt E w b lits) : b < w.heap.size := (Array.getElem?_eq_some_iff.1 h).1
theorem LitAt.below (h : LitAt E w b lits) (hb : Below w.heap.size w w') : LitAt E w' b lits := (hb.block b h.lt).trans h
theorem LitAt.src (h : LitAt E w b lits) (hg : w.grownBy w' (some p)) (hne : p < b) : LitAt E w' b lits := (hg.block b h.lt (fun e => by cases e; omega)).trans h
theorem LitAt.cell (h : LitAt E w b lits) (z : Nat) : w.cell? ⟨b, z, none⟩ = lits[z]? := cell_of_row w b z _ _ (0, 0) h
theorem OwnM.in_ (ho : OwnM E EI w base (.slice (some ⟨g, 0, none⟩) n cap) cs) (hl : cs.length = n) {k : Nat} (hk : k < n) : McIn w g (k * 3) (mcOf cs k) := by
  have h := ho.row
  rw [hl] at h
  exact rowM_in h hl hk
/-- One number of an entry is stored. -/
theorem OwnM.fieldI (hne : E ≠ EI) (ho : OwnM E EI w base (.slice (some ⟨g, 0, none⟩) n cap) cs) (hl : cs.length = n) {k : Nat} (hk : k < n) {j : Nat} (hj : j < 3) {u : Value} {y : Mc} (e : mcCells y = (mcCells (mcOf cs k)).set j u) (ev : y.v = (mcOf cs k).v) (en : y.md.next = (mcOf cs k).md.next) :
    w.frozen? ⟨g, k * 3 + j, none⟩ = false ∧ (RdM (w.setCell ⟨g, k * 3 + j, none⟩ u) (some ⟨g, 0, none⟩) n (cs.set k y) ∧ LowM base (some ⟨g, 0, none⟩) (cs.set k y)) ∧ Below base w (w.setCell ⟨g, k * 3 + j, none⟩ u) := by
  have h := ho.row
  rw [hl] at h
  obtain ⟨f, r⟩ := rowM_field h hl hk hj e
  have ht := ho.turned hne (grown_set' w g (k * 3 + j) u) (.inr rfl)
  have hls : (cs.set k y).length = n := by rw [List.length_set, hl]
  refine ⟨f, ?_, (Below.refl _ _).setCell (ho.block g rfl).1 _⟩
  rw [← hls] at r
  obtain ⟨ao, cap', e2, hr⟩ := rdM_row r (fun c hc => by
    rcases List.mem_or_eq_of_mem_set hc with hc | rfl
    · exact ht c hc
    · rw [ev, en]; exact ht _ (mcOf_mem (by omega)))
  rw [hls] at e2 hr
  cases e2
  exact hr
/-- An entry's list is appended to, and the entry gets it. -/
theorem OwnM.fieldN {w1 : World} (hne : E ≠ EI) (ho : OwnM E EI w base (.slice (some ⟨g, 0, none⟩) n cap) cs) (hl : cs.length = n) {k : Nat} (hk : k < n) {r s : Int} {xs : List Int} {xo : Option Addr} {xc : Nat} (hx : mcOf cs k = ⟨⟨r, s, xs⟩, xo, xc⟩)
    {ys : List Int} {yo : Option Addr} {yc : Nat} (hB : base ≤ w.heap.size) (g1 : w.grownBy w1 (Value.slice xo xs.length xc).ownBlock) (o1 : Own EI w1 base (.slice yo ys.length yc) ys) :
    w1.cell? ⟨g, k * 3 + 2, none⟩ = some (.slice xo xs.length xc) ∧ w1.frozen? ⟨g, k * 3 + 2, none⟩ = false ∧ RdM (w1.setCell ⟨g, k * 3 + 2, none⟩ (.slice yo ys.length yc)) (some ⟨g, 0, none⟩) n (cs.set k ⟨⟨r, s, ys⟩, yo, yc⟩) ∧ LowM base (some ⟨g, 0, none⟩) (cs.set k ⟨⟨r, s, ys⟩, yo, yc⟩) ∧ Below base w (w1.setCell ⟨g, k * 3 + 2, none⟩ (.slice yo ys.length yc)) := by
  have hkl : k < cs.length := by omega
  have hxn : Own EI w base (.slice xo xs.length xc) xs := by
    have := ho.nx _ (mcOf_mem hkl)
    rw [hx] at this
    exact this
  have hrow : w1.ownsRow base E 3 (.slice (some ⟨g, 0, none⟩) n cap) n (cs.flatMap mcCells) := by
    have h := ho.row
    rw [hl] at h
    refine World.ownsRow.kept h g1 (.inr (fun e => ?_))
    exact rows_ne h (show w.ownsRow base EI 1 (.slice xo xs.length xc) _ _ from hxn) hne g rfl e.symm
  have hin := rowM_in hrow hl hk
  rw [hx] at hin
  obtain ⟨f, hr⟩ := rowM_field (j := 2) (u := .slice yo ys.length yc) (y := ⟨⟨r, s, ys⟩, yo, yc⟩) hrow hl hk (by omega) (by rw [hx]; rfl)
  have hls : (cs.set k (⟨⟨r, s, ys⟩, yo, yc⟩ : Mc)).length = n := by rw [List.length_set, hl]
  have hgb : base ≤ g := (ho.block g rfl).1
  have hset : ∀ (v : Value) (zs : List Int), Own EI w1 base v zs → Own EI (w1.setCell ⟨g, k * 3 + 2, none⟩ (.slice yo ys.length yc)) base v zs := fun v zs h => by
    refine h.only (grown_set' w1 g (k * 3 + 2) _) ?_
    rcases hb : v.ownBlock with _ | j
    · exact .inl rfl
    · exact .inr (fun e => rows_ne (show w1.ownsRow base EI 1 v _ _ from h) hrow (fun e => hne e.symm) j hb (by rw [e]; rfl))
  have hbw : Below base w w1 := (Below.refl base w).grown g1 hB (fun j e => (hxn.block j e).1)
  refine ⟨hin.c2, f, ?_⟩
  rw [← hls] at hr
  obtain ⟨ao, cap', e2, hr2⟩ := rdM_row hr (fun c hc => by
    obtain ⟨i, hi, e⟩ := List.getElem_of_mem hc
    rw [List.length_set] at hi
    rw [List.getElem_set] at e
    by_cases hik : k = i
    · rw [if_pos hik] at e
      subst e
      exact hset _ _ o1
    · rw [if_neg hik] at e
      subst e
      refine hset _ _ ((ho.nx _ (List.getElem_mem hi)).only g1 ?_)
      rcases hb : (cs[i]).v.ownBlock with _ | j
      · exact .inl rfl
      · refine .inr (fun e => ?_)
        have hxe : cs[k].v = .slice xo xs.length xc := by rw [← mcOf_get hkl, hx]; rfl
        rcases Nat.lt_or_gt_of_ne hik with hlt | hlt
        · exact List.pairwise_iff_getElem.1 ho.apart k i hkl hi hlt j (by rw [hxe, ← e]) hb
        · exact List.pairwise_iff_getElem.1 ho.apart i k hi hkl hlt j hb (by rw [hxe, ← e]))
  rw [hls] at e2 hr2
  cases e2
  exact ⟨hr2.1, hr2.2, hbw.setCell hgb _⟩
end
set_option maxHeartbeats 4000000 in
set_option maxRecDepth 100000 in
set_option linter.unusedSimpArgs false in
theorem l11DrawAny_cap (p : Nat) (w : World) (hs : Src 107 w p) : Calls Try.prog 67 #[.pointer (some ⟨p, 0, none⟩)] w (DrawnMC w p) := by
  have hp := hs.lt
  have HC := Lib.hid (l11Draw_any p w hs); clear hs
  go_enter Try.func67, Try.ntmps67
  go_wp2_with fail
  refine HC.out.mono ?_
  rintro e w1 ⟨v, cs, rfl, o1, ⟨hl1, hl2⟩, hdr, hs1, g1⟩
  obtain ⟨ao, cap, rfl, r1, hcap, hmax, hcase⟩ := o1.form
  have hg : ∃ g, ao = some ⟨g, 0, none⟩ := by
    rcases hcase with h | ⟨g, h, -⟩
    · simp only [Value.slice.injEq] at h; omega
    · exact ⟨g, h⟩
  obtain ⟨g, rfl⟩ := hg
  obtain ⟨n, hn⟩ : ∃ n, n = cs.length := ⟨_, rfl⟩
  rw [← hn] at o1 hl1 hl2 hcap ⊢
  have hcm : cap ≤ 9223372036854775807 := by unfold maxLen at hmax; omega
  have HN := Lib.hid hn.symm; have HAny := Lib.hid (show anyMc cs from ⟨by omega, fun c hc => by have := hdr c hc; omega⟩); have HDR := Lib.hid hdr
  have HO1 := Lib.hid o1; have HS1 := Lib.hid hs1; have HG1 := Lib.hid g1
  clear o1 hs1 g1 r1 hdr hcase hmax hn HC
  go_wp2_with fail
  refine (next_any _ _ _ HS1.out (by omega)).mono ?_
  rintro e w2 ⟨k, rfl, hk0, hk1, hk2, hs2, g2⟩
  obtain ⟨k, rfl⟩ := Int.eq_ofNat_of_zero_le hk0
  have hkn : k < n := by
    by_cases h : 1 < (n : Int)
    · have := hk1 h; omega
    · have := hk2 (by omega); omega
  have HO2 := Lib.hid (HO1.out.old g2 hp); have HS2 := Lib.hid hs2; have HG2 := Lib.hid (grown_trans HG1.out g2)
  clear hk0 hk1 hk2 hs2 g2 HO1 HS1 HG1
  go_wp2_with fail
  refine (next_any _ _ _ HS2.out (by omega)).mono ?_
  rintro e w3 ⟨y, rfl, hy0, -, -, hs3, g3⟩
  have HO3 := Lib.hid (HO2.out.old g3 hp); have HS3 := Lib.hid hs3; have HG3 := Lib.hid (grown_trans HG2.out g3)
  clear hs3 g3 hy0 HO2 HS2 HG2
  have hkni : (k : Int) < (n : Int) := by omega
  have hkc : (k : Int) < (cap : Int) := by omega
  have hk0 : (0 : Int) ≤ (k : Int) := by omega
  have hkt : k < cs.length := by rw [HN.out]; exact hkn
  by_cases h0 : y = 0
  · subst h0
    have hbl : Below w3.heap.size w3 (w3.alloc (.cells #[.int .i64 0, .int .i64 8, .int .i64 9] 2)) := (Below.refl _ _).alloc (Nat.le_refl _) _
    have HSB := Lib.hid (HS3.out.below hbl); have HOB := Lib.hid (HO3.out.below hbl); have HGB := Lib.hid (grown_trans HG3.out (grown_of_below hbl))
    have hp3 : p < w3.heap.size := HS3.out.lt
    have HP3 := Lib.hid hp3; clear hbl hp3 HS3 HO3 HG3
    go_wp2_with fail
    refine (next_any _ _ _ HSB.out (by omega)).mono ?_
    rintro e w4 ⟨z, rfl, hz0, hz1, -, hs4, g4⟩
    have hz2 : z < 3 := hz1 (by omega)
    obtain ⟨z, rfl⟩ := Int.eq_ofNat_of_zero_le hz0
    have hz3 : z < 3 := by omega
    obtain ⟨u, hu⟩ := three_ints (cs := #[.int .i64 0, .int .i64 8, .int .i64 9]) rfl hz3
    have hcell : w4.cell? ⟨w3.heap.size, z, none⟩ = some (.int .i64 u) := (table_cell g4 HP3.out z).trans hu
    have HO4 := Lib.hid (HOB.out.old g4 hp); have HS4 := Lib.hid hs4; have HG4 := Lib.hid (grown_trans HGB.out g4)
    clear hz1 hs4 g4 HOB HSB HGB hu hz3
    have hin := HO4.out.in_ HN.out hkn
    obtain ⟨⟨⟨x0, x1, xs⟩, xo, xc⟩, hxe⟩ : ∃ x, mcOf cs k = x := ⟨_, rfl⟩
    rw [hxe] at hin
    obtain ⟨c0, c1, -⟩ := hin
    obtain ⟨f0, r5, b5⟩ := HO4.out.fieldI ne_md (j := 0) (u := .int .i64 u) (y := ⟨⟨u, x1, xs⟩, xo, xc⟩) HN.out hkn (by omega) (by rw [hxe]; rfl) (by rw [hxe]; rfl) (by rw [hxe])
    have hnm : xs.length ≤ 5 := by have h := HAny.out.2 _ (mcOf_mem hkt); rw [hxe] at h; exact h
    have HR5 := Lib.hid r5
    have HS5 := Lib.hid (HS4.out.belowB b5 hp); have HG5 := Lib.hid (grown_step HG4.out b5 (Nat.le_refl _))
    have HA5 := Lib.hid (anyMc_set (k := k) (y := ⟨⟨u, x1, xs⟩, xo, xc⟩) HAny.out hnm)
    clear r5 b5 hxe HS4 HG4
    simp only [Nat.add_zero] at c0 f0 HR5 HS5 HG5
    go_wp2_with fail
    go_ret
    exact ⟨_, _, _, _, rfl, HR5.out.1, HR5.out.2, HA5.out, HS5.out, HG5.out, hcap, hcm⟩
  have t0 : (y == 0) = false := by simp [h0]
  clear h0
  by_cases h1 : y = 1
  · subst h1
    have hbl : Below w3.heap.size w3 (w3.alloc (.cells #[.int .i64 0, .int .i64 16, .int .i64 17] 2)) := (Below.refl _ _).alloc (Nat.le_refl _) _
    have HSB := Lib.hid (HS3.out.below hbl); have HOB := Lib.hid (HO3.out.below hbl); have HGB := Lib.hid (grown_trans HG3.out (grown_of_below hbl))
    have hp3 : p < w3.heap.size := HS3.out.lt
    have HP3 := Lib.hid hp3; clear hbl hp3 HS3 HO3 HG3
    go_wp2_with fail
    refine (next_any _ _ _ HSB.out (by omega)).mono ?_
    rintro e w4 ⟨z, rfl, hz0, hz1, -, hs4, g4⟩
    have hz2 : z < 3 := hz1 (by omega)
    obtain ⟨z, rfl⟩ := Int.eq_ofNat_of_zero_le hz0
    have hz3 : z < 3 := by omega
    obtain ⟨u, hu⟩ := three_ints (cs := #[.int .i64 0, .int .i64 16, .int .i64 17]) rfl hz3
    have hcell : w4.cell? ⟨w3.heap.size, z, none⟩ = some (.int .i64 u) := (table_cell g4 HP3.out z).trans hu
    have HO4 := Lib.hid (HOB.out.old g4 hp); have HS4 := Lib.hid hs4; have HG4 := Lib.hid (grown_trans HGB.out g4)
    clear hz1 hs4 g4 HOB HSB HGB hu hz3
    have hin := HO4.out.in_ HN.out hkn
    obtain ⟨⟨⟨x0, x1, xs⟩, xo, xc⟩, hxe⟩ : ∃ x, mcOf cs k = x := ⟨_, rfl⟩
    rw [hxe] at hin
    obtain ⟨c0, c1, -⟩ := hin
    obtain ⟨f0, r5, b5⟩ := HO4.out.fieldI ne_md (j := 1) (u := .int .i64 u) (y := ⟨⟨x0, u, xs⟩, xo, xc⟩) HN.out hkn (by omega) (by rw [hxe]; rfl) (by rw [hxe]; rfl) (by rw [hxe])
    have hnm : xs.length ≤ 5 := by have h := HAny.out.2 _ (mcOf_mem hkt); rw [hxe] at h; exact h
    have HR5 := Lib.hid r5
    have HS5 := Lib.hid (HS4.out.belowB b5 hp); have HG5 := Lib.hid (grown_step HG4.out b5 (Nat.le_refl _))
    have HA5 := Lib.hid (anyMc_set (k := k) (y := ⟨⟨x0, u, xs⟩, xo, xc⟩) HAny.out hnm)
    clear r5 b5 hxe HS4 HG4
    simp only [Nat.add_zero] at c0 f0 HR5 HS5 HG5
    go_wp2_with fail
    go_ret
    exact ⟨_, _, _, _, rfl, HR5.out.1, HR5.out.2, HA5.out, HS5.out, HG5.out, hcap, hcm⟩
  have t1 : (y == 1) = false := by simp [h1]
  clear h1
  by_cases h2 : y = 2
  · subst h2
    obtain ⟨⟨⟨x0, x1, xs⟩, xo, xc⟩, hxe⟩ : ∃ x, mcOf cs k = x := ⟨_, rfl⟩
    have hnm : xs.length ≤ 4 := by have h := HDR.out _ (mcOf_mem hkt); rw [hxe] at h; exact h
    have HXE := Lib.hid hxe; clear hxe
    have hbd : Below w3.heap.size w3 w3.drew := Below.drew (Below.refl _ _)
    have HO4 := Lib.hid (HO3.out.below hbd); have HS4 := Lib.hid (HS3.out.below hbd); have HG4 := Lib.hid (grown_trans HG3.out (grown_of_below hbd))
    clear hbd HO3 HS3 HG3
    go_upto_region 9 with fail
    refine wp_region_held_drew (S := fun w' => True) (by kernel_rfl) (trivial) (fun hHeld => ?_)
    generalize w3.drew = wd at HO4 HS4 HG4 ⊢
    refine wpAnyH_take (i := 0) (v := ?_) rfl (by kernel_rfl) (by kernel_rfl) (by kernel_rfl) (fun _ _ _ h => h) (Or.inl ⟨by rfl, ?_⟩) (by assumption) ?_
    rotate_left
    · (intro w hSw; (try dsimp only at hSw); go_simp; (try with_reducible rfl))
    try simp only [List.getElem_toArray, List.getElem_cons_succ, List.getElem_cons_zero, Act.put, List.setIfInBounds_toArray, List.set_cons_zero, List.set_cons_succ]
    refine wpAnyH_take (i := 1) (v := ?_) rfl (by kernel_rfl) (by kernel_rfl) (by kernel_rfl) (fun _ _ _ h => h) (Or.inl ⟨by rfl, ?_⟩) (by assumption) ?_
    rotate_left
    · (intro w hSw; (try dsimp only at hSw); go_simp; (try with_reducible rfl))
    try simp only [List.getElem_toArray, List.getElem_cons_succ, List.getElem_cons_zero, Act.put, List.setIfInBounds_toArray, List.set_cons_zero, List.set_cons_succ]
    refine wpAnyH_take (i := 2) (v := ?_) rfl (by kernel_rfl) (by kernel_rfl) (by kernel_rfl) (fun _ _ _ h => h) (Or.inl ⟨by rfl, ?_⟩) (by assumption) ?_
    rotate_left
    · (intro w hSw; (try dsimp only at hSw); go_simp; (try with_reducible rfl))
    try simp only [List.getElem_toArray, List.getElem_cons_succ, List.getElem_cons_zero, Act.put, List.setIfInBounds_toArray, List.set_cons_zero, List.set_cons_succ]
    refine wpAnyH_take (i := 3) (v := ?_) rfl (by kernel_rfl) (by kernel_rfl) (by kernel_rfl) (fun _ _ _ h => h) (Or.inl ⟨by rfl, ?_⟩) (by assumption) ?_
    rotate_left
    · (intro w hSw; (try dsimp only at hSw); go_simp; (try with_reducible rfl))
    try simp only [List.getElem_toArray, List.getElem_cons_succ, List.getElem_cons_zero, Act.put, List.setIfInBounds_toArray, List.set_cons_zero, List.set_cons_succ]
    refine wpAnyH_take (i := 4) (v := ?_) rfl (by kernel_rfl) (by kernel_rfl) (by kernel_rfl) (fun _ _ _ h => h) (Or.inl ⟨by rfl, ?_⟩) (by assumption) ?_
    rotate_left
    · (intro w hSw; (try dsimp only at hSw); go_simp; (try with_reducible rfl))
    try simp only [List.getElem_toArray, List.getElem_cons_succ, List.getElem_cons_zero, Act.put, List.setIfInBounds_toArray, List.set_cons_zero, List.set_cons_succ]
    refine wpAnyH_take (i := 5) (v := ?_) rfl (by kernel_rfl) (by kernel_rfl) (by kernel_rfl) (fun _ _ _ h => h) (Or.inl ⟨by rfl, ?_⟩) (by assumption) ?_
    rotate_left
    · (intro w hSw; (try dsimp only at hSw); go_simp; (try with_reducible rfl))
    try simp only [List.getElem_toArray, List.getElem_cons_succ, List.getElem_cons_zero, Act.put, List.setIfInBounds_toArray, List.set_cons_zero, List.set_cons_succ]
    refine wpAnyH_take (i := 7) (v := ?_) rfl (by kernel_rfl) (by kernel_rfl) (by kernel_rfl) (fun _ _ _ h => h) (Or.inl ⟨by rfl, ?_⟩) (by assumption) ?_
    rotate_left
    · (intro w hSw; (try dsimp only at hSw); go_simp; (try with_reducible rfl))
    try simp only [List.getElem_toArray, List.getElem_cons_succ, List.getElem_cons_zero, Act.put, List.setIfInBounds_toArray, List.set_cons_zero, List.set_cons_succ]
    refine wpAnyH_take (i := 8) (v := ?_) rfl (by kernel_rfl) (by kernel_rfl) (by kernel_rfl) (fun _ _ _ h => h) (Or.inl ⟨by rfl, ?_⟩) (by assumption) ?_
    rotate_left
    · (intro w hSw; (try dsimp only at hSw); go_simp; (try with_reducible rfl))
    try simp only [List.getElem_toArray, List.getElem_cons_succ, List.getElem_cons_zero, Act.put, List.setIfInBounds_toArray, List.set_cons_zero, List.set_cons_succ]
    refine wpAnyH_take (i := 9) (v := ?_) rfl (by kernel_rfl) (by kernel_rfl) (by kernel_rfl) (fun _ _ _ h => h) (Or.inl ⟨by rfl, ?_⟩) (by assumption) ?_
    rotate_left
    · (intro w hSw; (try dsimp only at hSw); go_simp; (try with_reducible rfl))
    try simp only [List.getElem_toArray, List.getElem_cons_succ, List.getElem_cons_zero, Act.put, List.setIfInBounds_toArray, List.set_cons_zero, List.set_cons_succ]
    refine wpAnyH_take (i := 11) (v := ?_) rfl (by kernel_rfl) (by kernel_rfl) (by kernel_rfl) (fun _ _ _ h => h) (Or.inl ⟨by rfl, ?_⟩) (by assumption) ?_
    rotate_left
    · (intro w hSw; (try dsimp only at hSw); go_simp; (try with_reducible rfl))
    try simp only [List.getElem_toArray, List.getElem_cons_succ, List.getElem_cons_zero, Act.put, List.setIfInBounds_toArray, List.set_cons_zero, List.set_cons_succ]
    refine wpAnyH_ready (rs := [6, 10, 12]) (by kernel_rfl) (by simp) (AllReadyH.cons rfl (fun K hK => ?_) (AllReadyH.cons rfl (fun K hK => ?_) (AllReadyH.cons rfl (fun K hK => ?_) (AllReadyH.nil))))
    · skip
      have hin := HO4.out.in_ HN.out hkn
      rw [HXE.out] at hin
      obtain ⟨-, -, c2⟩ := hin
      go_simp
      refine hK.out _ _ ?_ (fun hHeld => ?_)
      · exact trivial
      clear hK K
      try simp only [List.getElem_toArray, List.getElem_cons_succ, List.getElem_cons_zero, Act.put, List.setIfInBounds_toArray, List.set_cons_zero, List.set_cons_succ]
      clear c2
      refine wpAnyH_ready (rs := [10, 12]) (by kernel_rfl) (by simp) (AllReadyH.cons rfl (fun K hK => ?_) (AllReadyH.cons rfl (fun K hK => ?_) (AllReadyH.nil)))
      · skip
        go_simp
        have hbl : Below wd.heap.size wd (wd.alloc (.cells #[.int .i64 (k : Int), .int .i64 (n : Int), .int .i64 0] 2)) := (Below.refl _ _).alloc (Nat.le_refl _) _
        have HO5 := Lib.hid (HO4.out.below hbl); have HS5 := Lib.hid (HS4.out.below hbl); have HG5 := Lib.hid (grown_trans HG4.out (grown_of_below hbl))
        have HL5 := Lib.hid (show LitAt 2 (wd.alloc (.cells #[.int .i64 (k : Int), .int .i64 (n : Int), .int .i64 0] 2)) wd.heap.size #[.int .i64 (k : Int), .int .i64 (n : Int), .int .i64 0] from LitAt.new _)
        have hpb : p < wd.heap.size := HS4.out.lt
        clear hbl
        generalize hwb : wd.heap.size = tb at HL5 hpb ⊢
        generalize wd.alloc (.cells #[.int .i64 (k : Int), .int .i64 (n : Int), .int .i64 0] 2) = wa5 at HO5 HS5 HG5 HL5 ⊢
        clear hwb
        refine hK.out _ _ ?_ (fun hHeld => ?_)
        · exact trivial
        clear hK K
        try simp only [List.getElem_toArray, List.getElem_cons_succ, List.getElem_cons_zero, Act.put, List.setIfInBounds_toArray, List.set_cons_zero, List.set_cons_succ]
        refine wpAnyH_ready (rs := [12]) (by kernel_rfl) (by simp) (AllReadyH.cons rfl (fun K hK => ?_) (AllReadyH.nil))
        go_simp
        refine (next_any _ _ _ HS5.out (by omega)).mono ?_
        rintro e wc ⟨z, rfl, hz0, hz1, -, hs, gc⟩
        have hz2 : z < 3 := hz1 (by omega)
        obtain ⟨z, rfl⟩ := Int.eq_ofNat_of_zero_le hz0
        have hz3 : z < 3 := by omega
        have HO6 := Lib.hid (HO5.out.old gc hp); have HS6 := Lib.hid hs; have HG6 := Lib.hid (grown_trans HG5.out gc)
        have HL6 := Lib.hid (HL5.out.src gc hpb)
        clear hz1 hs gc
        go_wp2_with fail
        refine hK.out _ _ ?_ (fun hHeld => ?_)
        · exact trivial
        clear hK K
        try simp only [List.getElem_toArray, List.getElem_cons_succ, List.getElem_cons_zero, Act.put, List.setIfInBounds_toArray, List.set_cons_zero, List.set_cons_succ]
        refine wpAnyH_take (i := 13) (v := ?_) rfl (by kernel_rfl) (by kernel_rfl) (by kernel_rfl) (fun _ _ _ h => h) (Or.inl ⟨by rfl, ?_⟩) (by assumption) ?_
        rotate_left
        · (intro w hSw; (try dsimp only at hSw); go_simp; (try with_reducible rfl))
        try simp only [List.getElem_toArray, List.getElem_cons_succ, List.getElem_cons_zero, Act.put, List.setIfInBounds_toArray, List.set_cons_zero, List.set_cons_succ]
        refine wpAnyH_ready (rs := [14]) (by kernel_rfl) (by simp) (AllReadyH.cons rfl (fun K hK => ?_) (AllReadyH.nil))
        obtain ⟨u, hu⟩ := three_ints (cs := #[.int .i64 (k : Int), .int .i64 (n : Int), .int .i64 0]) rfl hz3
        have hcell := (HL6.out.cell z).trans hu
        clear hu
        go_simp
        refine hK.out _ _ ?_ (fun hHeld => ?_)
        · exact trivial
        clear hK K
        try simp only [List.getElem_toArray, List.getElem_cons_succ, List.getElem_cons_zero, Act.put, List.setIfInBounds_toArray, List.set_cons_zero, List.set_cons_succ]
        clear hcell
        refine wpAnyH_ready (rs := [15]) (by kernel_rfl) (by simp) (AllReadyH.cons rfl (fun K hK => ?_) (AllReadyH.nil))
        go_simp
        have hbl : Below wc.heap.size wc (wc.alloc (.cells #[.int .i64 u] 2)) := (Below.refl _ _).alloc (Nat.le_refl _) _
        have HO7 := Lib.hid (HO6.out.below hbl); have HS7 := Lib.hid (HS6.out.below hbl); have HG7 := Lib.hid (grown_trans HG6.out (grown_of_below hbl))
        have HRU := Lib.hid (rd_one 2 u wc)
        clear hbl
        generalize wc.heap.size = ub at HRU ⊢
        generalize wc.alloc (.cells #[.int .i64 u] 2) = wu at HO7 HS7 HG7 HRU ⊢
        refine hK.out _ _ ?_ (fun hHeld => ?_)
        · exact trivial
        clear hK K
        try simp only [List.getElem_toArray, List.getElem_cons_succ, List.getElem_cons_zero, Act.put, List.setIfInBounds_toArray, List.set_cons_zero, List.set_cons_succ]
        refine wpAnyH_ready (rs := [16]) (by kernel_rfl) (by simp) (AllReadyH.cons rfl (fun K hK => ?_) (AllReadyH.nil))
        have hxn : Own 2 wu w.heap.size (.slice xo xs.length xc) xs := by
          have := HO7.out.nx _ (mcOf_mem hkt)
          rw [HXE.out] at this
          exact this
        refine app_op _ (.tmp 43) (.tmp 52) rfl w.heap.size Try.underlying26 info64 _ xs rfl hxn _ _ _ [u] rfl HRU.out (by omega) HG7.out.size ?_
        intro vn wn on gn
        obtain ⟨ns, hns⟩ : ∃ ns, ns = xs ++ [u] := ⟨_, rfl⟩
        have hnl : ns.length ≤ 5 := by rw [hns, List.length_append, List.length_singleton]; omega
        rw [← hns] at on
        clear hns
        obtain ⟨na, nc, rfl, on, -⟩ := on.get
        obtain ⟨cN, fN, rN, lN, bN⟩ := HO7.out.fieldN ne_md HN.out hkn HXE.out HG7.out.size gn on
        have HSF := Lib.hid (HS7.out.belowB bN hp); have HGF := Lib.hid (grown_step HG7.out bN (Nat.le_refl _)); have HRF := Lib.hid rN; have HLF := Lib.hid lN
        have HAF := Lib.hid (anyMc_set (k := k) (y := ⟨⟨x0, x1, ns⟩, na, nc⟩) HAny.out hnl)
        clear on gn bN rN lN hxn
        refine hK.out _ _ ?_ (fun hHeld => ?_)
        · exact trivial
        clear hK K
        try simp only [List.getElem_toArray, List.getElem_cons_succ, List.getElem_cons_zero, Act.put, List.setIfInBounds_toArray, List.set_cons_zero, List.set_cons_succ]
        refine wpAnyH_take (i := 17) (v := ?_) rfl (by kernel_rfl) (by kernel_rfl) (by kernel_rfl) (fun _ _ _ h => h) (Or.inl ⟨by rfl, ?_⟩) (by assumption) ?_
        rotate_left
        · (intro w hSw; (try dsimp only at hSw); go_simp; (try with_reducible rfl))
        try simp only [List.getElem_toArray, List.getElem_cons_succ, List.getElem_cons_zero, Act.put, List.setIfInBounds_toArray, List.set_cons_zero, List.set_cons_succ]
        refine wpAnyH_take (i := 18) (v := ?_) rfl (by kernel_rfl) (by kernel_rfl) (by kernel_rfl) (fun _ _ _ h => h) (Or.inl ⟨by rfl, ?_⟩) (by assumption) ?_
        rotate_left
        · (intro w hSw; (try dsimp only at hSw); go_simp; (try with_reducible rfl))
        try simp only [List.getElem_toArray, List.getElem_cons_succ, List.getElem_cons_zero, Act.put, List.setIfInBounds_toArray, List.set_cons_zero, List.set_cons_succ]
        refine wpAnyH_ready (rs := [19]) (by kernel_rfl) (by simp) (AllReadyH.cons rfl (fun K hK => ?_) (AllReadyH.nil))
        go_simp
        refine hK.out _ _ ?_ (fun hHeld => ?_)
        · exact trivial
        clear hK K
        try simp only [List.getElem_toArray, List.getElem_cons_succ, List.getElem_cons_zero, Act.put, List.setIfInBounds_toArray, List.set_cons_zero, List.set_cons_succ]
        refine wpAnyH_done (by kernel_rfl) ?_ _
        go_wp2_with fail
        go_ret
        exact ⟨_, _, _, _, rfl, HRF.out, HLF.out, HAF.out, HSF.out, HGF.out, hcap, hcm⟩
      · skip
        go_simp
        refine (next_any _ _ _ HS4.out (by omega)).mono ?_
        rintro e wc ⟨z, rfl, hz0, hz1, -, hs, gc⟩
        have hz2 : z < 3 := hz1 (by omega)
        obtain ⟨z, rfl⟩ := Int.eq_ofNat_of_zero_le hz0
        have hz3 : z < 3 := by omega
        have HO5 := Lib.hid (HO4.out.old gc hp); have HS5 := Lib.hid hs; have HG5 := Lib.hid (grown_trans HG4.out gc)
        clear hz1 hs gc
        go_wp2_with fail
        refine hK.out _ _ ?_ (fun hHeld => ?_)
        · exact trivial
        clear hK K
        try simp only [List.getElem_toArray, List.getElem_cons_succ, List.getElem_cons_zero, Act.put, List.setIfInBounds_toArray, List.set_cons_zero, List.set_cons_succ]
        refine wpAnyH_ready (rs := [10]) (by kernel_rfl) (by simp) (AllReadyH.cons rfl (fun K hK => ?_) (AllReadyH.nil))
        go_simp
        have hbl : Below wc.heap.size wc (wc.alloc (.cells #[.int .i64 (k : Int), .int .i64 (n : Int), .int .i64 0] 2)) := (Below.refl _ _).alloc (Nat.le_refl _) _
        have HO6 := Lib.hid (HO5.out.below hbl); have HS6 := Lib.hid (HS5.out.below hbl); have HG6 := Lib.hid (grown_trans HG5.out (grown_of_below hbl))
        have HL6 := Lib.hid (show LitAt 2 (wc.alloc (.cells #[.int .i64 (k : Int), .int .i64 (n : Int), .int .i64 0] 2)) wc.heap.size #[.int .i64 (k : Int), .int .i64 (n : Int), .int .i64 0] from LitAt.new _)
        have hpb : p < wc.heap.size := HS5.out.lt
        clear hbl
        generalize hwb : wc.heap.size = tb at HL6 hpb ⊢
        generalize wc.alloc (.cells #[.int .i64 (k : Int), .int .i64 (n : Int), .int .i64 0] 2) = wa6 at HO6 HS6 HG6 HL6 ⊢
        clear hwb
        refine hK.out _ _ ?_ (fun hHeld => ?_)
        · exact trivial
        clear hK K
        try simp only [List.getElem_toArray, List.getElem_cons_succ, List.getElem_cons_zero, Act.put, List.setIfInBounds_toArray, List.set_cons_zero, List.set_cons_succ]
        refine wpAnyH_take (i := 13) (v := ?_) rfl (by kernel_rfl) (by kernel_rfl) (by kernel_rfl) (fun _ _ _ h => h) (Or.inl ⟨by rfl, ?_⟩) (by assumption) ?_
        rotate_left
        · (intro w hSw; (try dsimp only at hSw); go_simp; (try with_reducible rfl))
        try simp only [List.getElem_toArray, List.getElem_cons_succ, List.getElem_cons_zero, Act.put, List.setIfInBounds_toArray, List.set_cons_zero, List.set_cons_succ]
        refine wpAnyH_ready (rs := [14]) (by kernel_rfl) (by simp) (AllReadyH.cons rfl (fun K hK => ?_) (AllReadyH.nil))
        obtain ⟨u, hu⟩ := three_ints (cs := #[.int .i64 (k : Int), .int .i64 (n : Int), .int .i64 0]) rfl hz3
        have hcell := (HL6.out.cell z).trans hu
        clear hu
        go_simp
        refine hK.out _ _ ?_ (fun hHeld => ?_)
        · exact trivial
        clear hK K
        try simp only [List.getElem_toArray, List.getElem_cons_succ, List.getElem_cons_zero, Act.put, List.setIfInBounds_toArray, List.set_cons_zero, List.set_cons_succ]
        clear hcell
        refine wpAnyH_ready (rs := [15]) (by kernel_rfl) (by simp) (AllReadyH.cons rfl (fun K hK => ?_) (AllReadyH.nil))
        go_simp
        have hbl : Below wa6.heap.size wa6 (wa6.alloc (.cells #[.int .i64 u] 2)) := (Below.refl _ _).alloc (Nat.le_refl _) _
        have HO7 := Lib.hid (HO6.out.below hbl); have HS7 := Lib.hid (HS6.out.below hbl); have HG7 := Lib.hid (grown_trans HG6.out (grown_of_below hbl))
        have HRU := Lib.hid (rd_one 2 u wa6)
        clear hbl
        generalize wa6.heap.size = ub at HRU ⊢
        generalize wa6.alloc (.cells #[.int .i64 u] 2) = wu at HO7 HS7 HG7 HRU ⊢
        refine hK.out _ _ ?_ (fun hHeld => ?_)
        · exact trivial
        clear hK K
        try simp only [List.getElem_toArray, List.getElem_cons_succ, List.getElem_cons_zero, Act.put, List.setIfInBounds_toArray, List.set_cons_zero, List.set_cons_succ]
        refine wpAnyH_ready (rs := [16]) (by kernel_rfl) (by simp) (AllReadyH.cons rfl (fun K hK => ?_) (AllReadyH.nil))
        have hxn : Own 2 wu w.heap.size (.slice xo xs.length xc) xs := by
          have := HO7.out.nx _ (mcOf_mem hkt)
          rw [HXE.out] at this
          exact this
        refine app_op _ (.tmp 43) (.tmp 52) rfl w.heap.size Try.underlying26 info64 _ xs rfl hxn _ _ _ [u] rfl HRU.out (by omega) HG7.out.size ?_
        intro vn wn on gn
        obtain ⟨ns, hns⟩ : ∃ ns, ns = xs ++ [u] := ⟨_, rfl⟩
        have hnl : ns.length ≤ 5 := by rw [hns, List.length_append, List.length_singleton]; omega
        rw [← hns] at on
        clear hns
        obtain ⟨na, nc, rfl, on, -⟩ := on.get
        obtain ⟨cN, fN, rN, lN, bN⟩ := HO7.out.fieldN ne_md HN.out hkn HXE.out HG7.out.size gn on
        have HSF := Lib.hid (HS7.out.belowB bN hp); have HGF := Lib.hid (grown_step HG7.out bN (Nat.le_refl _)); have HRF := Lib.hid rN; have HLF := Lib.hid lN
        have HAF := Lib.hid (anyMc_set (k := k) (y := ⟨⟨x0, x1, ns⟩, na, nc⟩) HAny.out hnl)
        clear on gn bN rN lN hxn
        refine hK.out _ _ ?_ (fun hHeld => ?_)
        · exact trivial
        clear hK K
        try simp only [List.getElem_toArray, List.getElem_cons_succ, List.getElem_cons_zero, Act.put, List.setIfInBounds_toArray, List.set_cons_zero, List.set_cons_succ]
        refine wpAnyH_take (i := 17) (v := ?_) rfl (by kernel_rfl) (by kernel_rfl) (by kernel_rfl) (fun _ _ _ h => h) (Or.inl ⟨by rfl, ?_⟩) (by assumption) ?_
        rotate_left
        · (intro w hSw; (try dsimp only at hSw); go_simp; (try with_reducible rfl))
        try simp only [List.getElem_toArray, List.getElem_cons_succ, List.getElem_cons_zero, Act.put, List.setIfInBounds_toArray, List.set_cons_zero, List.set_cons_succ]
        refine wpAnyH_take (i := 18) (v := ?_) rfl (by kernel_rfl) (by kernel_rfl) (by kernel_rfl) (fun _ _ _ h => h) (Or.inl ⟨by rfl, ?_⟩) (by assumption) ?_
        rotate_left
        · (intro w hSw; (try dsimp only at hSw); go_simp; (try with_reducible rfl))
        try simp only [List.getElem_toArray, List.getElem_cons_succ, List.getElem_cons_zero, Act.put, List.setIfInBounds_toArray, List.set_cons_zero, List.set_cons_succ]
        refine wpAnyH_ready (rs := [19]) (by kernel_rfl) (by simp) (AllReadyH.cons rfl (fun K hK => ?_) (AllReadyH.nil))
        go_simp
        refine hK.out _ _ ?_ (fun hHeld => ?_)
        · exact trivial
        clear hK K
        try simp only [List.getElem_toArray, List.getElem_cons_succ, List.getElem_cons_zero, Act.put, List.setIfInBounds_toArray, List.set_cons_zero, List.set_cons_succ]
        refine wpAnyH_done (by kernel_rfl) ?_ _
        go_wp2_with fail
        go_ret
        exact ⟨_, _, _, _, rfl, HRF.out, HLF.out, HAF.out, HSF.out, HGF.out, hcap, hcm⟩
    · skip
      go_simp
      have hbl : Below wd.heap.size wd (wd.alloc (.cells #[.int .i64 (k : Int), .int .i64 (n : Int), .int .i64 0] 2)) := (Below.refl _ _).alloc (Nat.le_refl _) _
      have HO5 := Lib.hid (HO4.out.below hbl); have HS5 := Lib.hid (HS4.out.below hbl); have HG5 := Lib.hid (grown_trans HG4.out (grown_of_below hbl))
      have HL5 := Lib.hid (show LitAt 2 (wd.alloc (.cells #[.int .i64 (k : Int), .int .i64 (n : Int), .int .i64 0] 2)) wd.heap.size #[.int .i64 (k : Int), .int .i64 (n : Int), .int .i64 0] from LitAt.new _)
      have hpb : p < wd.heap.size := HS4.out.lt
      clear hbl
      generalize hwb : wd.heap.size = tb at HL5 hpb ⊢
      generalize wd.alloc (.cells #[.int .i64 (k : Int), .int .i64 (n : Int), .int .i64 0] 2) = wa5 at HO5 HS5 HG5 HL5 ⊢
      clear hwb
      refine hK.out _ _ ?_ (fun hHeld => ?_)
      · exact trivial
      clear hK K
      try simp only [List.getElem_toArray, List.getElem_cons_succ, List.getElem_cons_zero, Act.put, List.setIfInBounds_toArray, List.set_cons_zero, List.set_cons_succ]
      refine wpAnyH_ready (rs := [6, 12]) (by kernel_rfl) (by simp) (AllReadyH.cons rfl (fun K hK => ?_) (AllReadyH.cons rfl (fun K hK => ?_) (AllReadyH.nil)))
      · skip
        have hin := HO5.out.in_ HN.out hkn
        rw [HXE.out] at hin
        obtain ⟨-, -, c2⟩ := hin
        go_simp
        refine hK.out _ _ ?_ (fun hHeld => ?_)
        · exact trivial
        clear hK K
        try simp only [List.getElem_toArray, List.getElem_cons_succ, List.getElem_cons_zero, Act.put, List.setIfInBounds_toArray, List.set_cons_zero, List.set_cons_succ]
        clear c2
        refine wpAnyH_ready (rs := [12]) (by kernel_rfl) (by simp) (AllReadyH.cons rfl (fun K hK => ?_) (AllReadyH.nil))
        go_simp
        refine (next_any _ _ _ HS5.out (by omega)).mono ?_
        rintro e wc ⟨z, rfl, hz0, hz1, -, hs, gc⟩
        have hz2 : z < 3 := hz1 (by omega)
        obtain ⟨z, rfl⟩ := Int.eq_ofNat_of_zero_le hz0
        have hz3 : z < 3 := by omega
        have HO6 := Lib.hid (HO5.out.old gc hp); have HS6 := Lib.hid hs; have HG6 := Lib.hid (grown_trans HG5.out gc)
        have HL6 := Lib.hid (HL5.out.src gc hpb)
        clear hz1 hs gc
        go_wp2_with fail
        refine hK.out _ _ ?_ (fun hHeld => ?_)
        · exact trivial
        clear hK K
        try simp only [List.getElem_toArray, List.getElem_cons_succ, List.getElem_cons_zero, Act.put, List.setIfInBounds_toArray, List.set_cons_zero, List.set_cons_succ]
        refine wpAnyH_take (i := 13) (v := ?_) rfl (by kernel_rfl) (by kernel_rfl) (by kernel_rfl) (fun _ _ _ h => h) (Or.inl ⟨by rfl, ?_⟩) (by assumption) ?_
        rotate_left
        · (intro w hSw; (try dsimp only at hSw); go_simp; (try with_reducible rfl))
        try simp only [List.getElem_toArray, List.getElem_cons_succ, List.getElem_cons_zero, Act.put, List.setIfInBounds_toArray, List.set_cons_zero, List.set_cons_succ]
        refine wpAnyH_ready (rs := [14]) (by kernel_rfl) (by simp) (AllReadyH.cons rfl (fun K hK => ?_) (AllReadyH.nil))
        obtain ⟨u, hu⟩ := three_ints (cs := #[.int .i64 (k : Int), .int .i64 (n : Int), .int .i64 0]) rfl hz3
        have hcell := (HL6.out.cell z).trans hu
        clear hu
        go_simp
        refine hK.out _ _ ?_ (fun hHeld => ?_)
        · exact trivial
        clear hK K
        try simp only [List.getElem_toArray, List.getElem_cons_succ, List.getElem_cons_zero, Act.put, List.setIfInBounds_toArray, List.set_cons_zero, List.set_cons_succ]
        clear hcell
        refine wpAnyH_ready (rs := [15]) (by kernel_rfl) (by simp) (AllReadyH.cons rfl (fun K hK => ?_) (AllReadyH.nil))
        go_simp
        have hbl : Below wc.heap.size wc (wc.alloc (.cells #[.int .i64 u] 2)) := (Below.refl _ _).alloc (Nat.le_refl _) _
        have HO7 := Lib.hid (HO6.out.below hbl); have HS7 := Lib.hid (HS6.out.below hbl); have HG7 := Lib.hid (grown_trans HG6.out (grown_of_below hbl))
        have HRU := Lib.hid (rd_one 2 u wc)
        clear hbl
        generalize wc.heap.size = ub at HRU ⊢
        generalize wc.alloc (.cells #[.int .i64 u] 2) = wu at HO7 HS7 HG7 HRU ⊢
        refine hK.out _ _ ?_ (fun hHeld => ?_)
        · exact trivial
        clear hK K
        try simp only [List.getElem_toArray, List.getElem_cons_succ, List.getElem_cons_zero, Act.put, List.setIfInBounds_toArray, List.set_cons_zero, List.set_cons_succ]
        refine wpAnyH_ready (rs := [16]) (by kernel_rfl) (by simp) (AllReadyH.cons rfl (fun K hK => ?_) (AllReadyH.nil))
        have hxn : Own 2 wu w.heap.size (.slice xo xs.length xc) xs := by
          have := HO7.out.nx _ (mcOf_mem hkt)
          rw [HXE.out] at this
          exact this
        refine app_op _ (.tmp 43) (.tmp 52) rfl w.heap.size Try.underlying26 info64 _ xs rfl hxn _ _ _ [u] rfl HRU.out (by omega) HG7.out.size ?_
        intro vn wn on gn
        obtain ⟨ns, hns⟩ : ∃ ns, ns = xs ++ [u] := ⟨_, rfl⟩
        have hnl : ns.length ≤ 5 := by rw [hns, List.length_append, List.length_singleton]; omega
        rw [← hns] at on
        clear hns
        obtain ⟨na, nc, rfl, on, -⟩ := on.get
        obtain ⟨cN, fN, rN, lN, bN⟩ := HO7.out.fieldN ne_md HN.out hkn HXE.out HG7.out.size gn on
        have HSF := Lib.hid (HS7.out.belowB bN hp); have HGF := Lib.hid (grown_step HG7.out bN (Nat.le_refl _)); have HRF := Lib.hid rN; have HLF := Lib.hid lN
        have HAF := Lib.hid (anyMc_set (k := k) (y := ⟨⟨x0, x1, ns⟩, na, nc⟩) HAny.out hnl)
        clear on gn bN rN lN hxn
        refine hK.out _ _ ?_ (fun hHeld => ?_)
        · exact trivial
        clear hK K
        try simp only [List.getElem_toArray, List.getElem_cons_succ, List.getElem_cons_zero, Act.put, List.setIfInBounds_toArray, List.set_cons_zero, List.set_cons_succ]
        refine wpAnyH_take (i := 17) (v := ?_) rfl (by kernel_rfl) (by kernel_rfl) (by kernel_rfl) (fun _ _ _ h => h) (Or.inl ⟨by rfl, ?_⟩) (by assumption) ?_
        rotate_left
        · (intro w hSw; (try dsimp only at hSw); go_simp; (try with_reducible rfl))
        try simp only [List.getElem_toArray, List.getElem_cons_succ, List.getElem_cons_zero, Act.put, List.setIfInBounds_toArray, List.set_cons_zero, List.set_cons_succ]
        refine wpAnyH_take (i := 18) (v := ?_) rfl (by kernel_rfl) (by kernel_rfl) (by kernel_rfl) (fun _ _ _ h => h) (Or.inl ⟨by rfl, ?_⟩) (by assumption) ?_
        rotate_left
        · (intro w hSw; (try dsimp only at hSw); go_simp; (try with_reducible rfl))
        try simp only [List.getElem_toArray, List.getElem_cons_succ, List.getElem_cons_zero, Act.put, List.setIfInBounds_toArray, List.set_cons_zero, List.set_cons_succ]
        refine wpAnyH_ready (rs := [19]) (by kernel_rfl) (by simp) (AllReadyH.cons rfl (fun K hK => ?_) (AllReadyH.nil))
        go_simp
        refine hK.out _ _ ?_ (fun hHeld => ?_)
        · exact trivial
        clear hK K
        try simp only [List.getElem_toArray, List.getElem_cons_succ, List.getElem_cons_zero, Act.put, List.setIfInBounds_toArray, List.set_cons_zero, List.set_cons_succ]
        refine wpAnyH_done (by kernel_rfl) ?_ _
        go_wp2_with fail
        go_ret
        exact ⟨_, _, _, _, rfl, HRF.out, HLF.out, HAF.out, HSF.out, HGF.out, hcap, hcm⟩
      · skip
        go_simp
        refine (next_any _ _ _ HS5.out (by omega)).mono ?_
        rintro e wc ⟨z, rfl, hz0, hz1, -, hs, gc⟩
        have hz2 : z < 3 := hz1 (by omega)
        obtain ⟨z, rfl⟩ := Int.eq_ofNat_of_zero_le hz0
        have hz3 : z < 3 := by omega
        have HO6 := Lib.hid (HO5.out.old gc hp); have HS6 := Lib.hid hs; have HG6 := Lib.hid (grown_trans HG5.out gc)
        have HL6 := Lib.hid (HL5.out.src gc hpb)
        clear hz1 hs gc
        go_wp2_with fail
        refine hK.out _ _ ?_ (fun hHeld => ?_)
        · exact trivial
        clear hK K
        try simp only [List.getElem_toArray, List.getElem_cons_succ, List.getElem_cons_zero, Act.put, List.setIfInBounds_toArray, List.set_cons_zero, List.set_cons_succ]
        refine wpAnyH_take (i := 13) (v := ?_) rfl (by kernel_rfl) (by kernel_rfl) (by kernel_rfl) (fun _ _ _ h => h) (Or.inl ⟨by rfl, ?_⟩) (by assumption) ?_
        rotate_left
        · (intro w hSw; (try dsimp only at hSw); go_simp; (try with_reducible rfl))
        try simp only [List.getElem_toArray, List.getElem_cons_succ, List.getElem_cons_zero, Act.put, List.setIfInBounds_toArray, List.set_cons_zero, List.set_cons_succ]
        refine wpAnyH_ready (rs := [6, 14]) (by kernel_rfl) (by simp) (AllReadyH.cons rfl (fun K hK => ?_) (AllReadyH.cons rfl (fun K hK => ?_) (AllReadyH.nil)))
        · skip
          have hin := HO6.out.in_ HN.out hkn
          rw [HXE.out] at hin
          obtain ⟨-, -, c2⟩ := hin
          go_simp
          refine hK.out _ _ ?_ (fun hHeld => ?_)
          · exact trivial
          clear hK K
          try simp only [List.getElem_toArray, List.getElem_cons_succ, List.getElem_cons_zero, Act.put, List.setIfInBounds_toArray, List.set_cons_zero, List.set_cons_succ]
          clear c2
          refine wpAnyH_ready (rs := [14]) (by kernel_rfl) (by simp) (AllReadyH.cons rfl (fun K hK => ?_) (AllReadyH.nil))
          obtain ⟨u, hu⟩ := three_ints (cs := #[.int .i64 (k : Int), .int .i64 (n : Int), .int .i64 0]) rfl hz3
          have hcell := (HL6.out.cell z).trans hu
          clear hu
          go_simp
          refine hK.out _ _ ?_ (fun hHeld => ?_)
          · exact trivial
          clear hK K
          try simp only [List.getElem_toArray, List.getElem_cons_succ, List.getElem_cons_zero, Act.put, List.setIfInBounds_toArray, List.set_cons_zero, List.set_cons_succ]
          clear hcell
          refine wpAnyH_ready (rs := [15]) (by kernel_rfl) (by simp) (AllReadyH.cons rfl (fun K hK => ?_) (AllReadyH.nil))
          go_simp
          have hbl : Below wc.heap.size wc (wc.alloc (.cells #[.int .i64 u] 2)) := (Below.refl _ _).alloc (Nat.le_refl _) _
          have HO7 := Lib.hid (HO6.out.below hbl); have HS7 := Lib.hid (HS6.out.below hbl); have HG7 := Lib.hid (grown_trans HG6.out (grown_of_below hbl))
          have HRU := Lib.hid (rd_one 2 u wc)
          clear hbl
          generalize wc.heap.size = ub at HRU ⊢
          generalize wc.alloc (.cells #[.int .i64 u] 2) = wu at HO7 HS7 HG7 HRU ⊢
          refine hK.out _ _ ?_ (fun hHeld => ?_)
          · exact trivial
          clear hK K
          try simp only [List.getElem_toArray, List.getElem_cons_succ, List.getElem_cons_zero, Act.put, List.setIfInBounds_toArray, List.set_cons_zero, List.set_cons_succ]
          refine wpAnyH_ready (rs := [16]) (by kernel_rfl) (by simp) (AllReadyH.cons rfl (fun K hK => ?_) (AllReadyH.nil))
          have hxn : Own 2 wu w.heap.size (.slice xo xs.length xc) xs := by
            have := HO7.out.nx _ (mcOf_mem hkt)
            rw [HXE.out] at this
            exact this
          refine app_op _ (.tmp 43) (.tmp 52) rfl w.heap.size Try.underlying26 info64 _ xs rfl hxn _ _ _ [u] rfl HRU.out (by omega) HG7.out.size ?_
          intro vn wn on gn
          obtain ⟨ns, hns⟩ : ∃ ns, ns = xs ++ [u] := ⟨_, rfl⟩
          have hnl : ns.length ≤ 5 := by rw [hns, List.length_append, List.length_singleton]; omega
          rw [← hns] at on
          clear hns
          obtain ⟨na, nc, rfl, on, -⟩ := on.get
          obtain ⟨cN, fN, rN, lN, bN⟩ := HO7.out.fieldN ne_md HN.out hkn HXE.out HG7.out.size gn on
          have HSF := Lib.hid (HS7.out.belowB bN hp); have HGF := Lib.hid (grown_step HG7.out bN (Nat.le_refl _)); have HRF := Lib.hid rN; have HLF := Lib.hid lN
          have HAF := Lib.hid (anyMc_set (k := k) (y := ⟨⟨x0, x1, ns⟩, na, nc⟩) HAny.out hnl)
          clear on gn bN rN lN hxn
          refine hK.out _ _ ?_ (fun hHeld => ?_)
          · exact trivial
          clear hK K
          try simp only [List.getElem_toArray, List.getElem_cons_succ, List.getElem_cons_zero, Act.put, List.setIfInBounds_toArray, List.set_cons_zero, List.set_cons_succ]
          refine wpAnyH_take (i := 17) (v := ?_) rfl (by kernel_rfl) (by kernel_rfl) (by kernel_rfl) (fun _ _ _ h => h) (Or.inl ⟨by rfl, ?_⟩) (by assumption) ?_
          rotate_left
          · (intro w hSw; (try dsimp only at hSw); go_simp; (try with_reducible rfl))
          try simp only [List.getElem_toArray, List.getElem_cons_succ, List.getElem_cons_zero, Act.put, List.setIfInBounds_toArray, List.set_cons_zero, List.set_cons_succ]
          refine wpAnyH_take (i := 18) (v := ?_) rfl (by kernel_rfl) (by kernel_rfl) (by kernel_rfl) (fun _ _ _ h => h) (Or.inl ⟨by rfl, ?_⟩) (by assumption) ?_
          rotate_left
          · (intro w hSw; (try dsimp only at hSw); go_simp; (try with_reducible rfl))
          try simp only [List.getElem_toArray, List.getElem_cons_succ, List.getElem_cons_zero, Act.put, List.setIfInBounds_toArray, List.set_cons_zero, List.set_cons_succ]
          refine wpAnyH_ready (rs := [19]) (by kernel_rfl) (by simp) (AllReadyH.cons rfl (fun K hK => ?_) (AllReadyH.nil))
          go_simp
          refine hK.out _ _ ?_ (fun hHeld => ?_)
          · exact trivial
          clear hK K
          try simp only [List.getElem_toArray, List.getElem_cons_succ, List.getElem_cons_zero, Act.put, List.setIfInBounds_toArray, List.set_cons_zero, List.set_cons_succ]
          refine wpAnyH_done (by kernel_rfl) ?_ _
          go_wp2_with fail
          go_ret
          exact ⟨_, _, _, _, rfl, HRF.out, HLF.out, HAF.out, HSF.out, HGF.out, hcap, hcm⟩
        · skip
          obtain ⟨u, hu⟩ := three_ints (cs := #[.int .i64 (k : Int), .int .i64 (n : Int), .int .i64 0]) rfl hz3
          have hcell := (HL6.out.cell z).trans hu
          clear hu
          go_simp
          refine hK.out _ _ ?_ (fun hHeld => ?_)
          · exact trivial
          clear hK K
          try simp only [List.getElem_toArray, List.getElem_cons_succ, List.getElem_cons_zero, Act.put, List.setIfInBounds_toArray, List.set_cons_zero, List.set_cons_succ]
          clear hcell
          refine wpAnyH_ready (rs := [6, 15]) (by kernel_rfl) (by simp) (AllReadyH.cons rfl (fun K hK => ?_) (AllReadyH.cons rfl (fun K hK => ?_) (AllReadyH.nil)))
          · skip
            have hin := HO6.out.in_ HN.out hkn
            rw [HXE.out] at hin
            obtain ⟨-, -, c2⟩ := hin
            go_simp
            refine hK.out _ _ ?_ (fun hHeld => ?_)
            · exact trivial
            clear hK K
            try simp only [List.getElem_toArray, List.getElem_cons_succ, List.getElem_cons_zero, Act.put, List.setIfInBounds_toArray, List.set_cons_zero, List.set_cons_succ]
            clear c2
            refine wpAnyH_ready (rs := [15]) (by kernel_rfl) (by simp) (AllReadyH.cons rfl (fun K hK => ?_) (AllReadyH.nil))
            go_simp
            have hbl : Below wc.heap.size wc (wc.alloc (.cells #[.int .i64 u] 2)) := (Below.refl _ _).alloc (Nat.le_refl _) _
            have HO7 := Lib.hid (HO6.out.below hbl); have HS7 := Lib.hid (HS6.out.below hbl); have HG7 := Lib.hid (grown_trans HG6.out (grown_of_below hbl))
            have HRU := Lib.hid (rd_one 2 u wc)
            clear hbl
            generalize wc.heap.size = ub at HRU ⊢
            generalize wc.alloc (.cells #[.int .i64 u] 2) = wu at HO7 HS7 HG7 HRU ⊢
            refine hK.out _ _ ?_ (fun hHeld => ?_)
            · exact trivial
            clear hK K
            try simp only [List.getElem_toArray, List.getElem_cons_succ, List.getElem_cons_zero, Act.put, List.setIfInBounds_toArray, List.set_cons_zero, List.set_cons_succ]
            refine wpAnyH_ready (rs := [16]) (by kernel_rfl) (by simp) (AllReadyH.cons rfl (fun K hK => ?_) (AllReadyH.nil))
            have hxn : Own 2 wu w.heap.size (.slice xo xs.length xc) xs := by
              have := HO7.out.nx _ (mcOf_mem hkt)
              rw [HXE.out] at this
              exact this
            refine app_op _ (.tmp 43) (.tmp 52) rfl w.heap.size Try.underlying26 info64 _ xs rfl hxn _ _ _ [u] rfl HRU.out (by omega) HG7.out.size ?_
            intro vn wn on gn
            obtain ⟨ns, hns⟩ : ∃ ns, ns = xs ++ [u] := ⟨_, rfl⟩
            have hnl : ns.length ≤ 5 := by rw [hns, List.length_append, List.length_singleton]; omega
            rw [← hns] at on
            clear hns
            obtain ⟨na, nc, rfl, on, -⟩ := on.get
            obtain ⟨cN, fN, rN, lN, bN⟩ := HO7.out.fieldN ne_md HN.out hkn HXE.out HG7.out.size gn on
            have HSF := Lib.hid (HS7.out.belowB bN hp); have HGF := Lib.hid (grown_step HG7.out bN (Nat.le_refl _)); have HRF := Lib.hid rN; have HLF := Lib.hid lN
            have HAF := Lib.hid (anyMc_set (k := k) (y := ⟨⟨x0, x1, ns⟩, na, nc⟩) HAny.out hnl)
            clear on gn bN rN lN hxn
            refine hK.out _ _ ?_ (fun hHeld => ?_)
            · exact trivial
            clear hK K
            try simp only [List.getElem_toArray, List.getElem_cons_succ, List.getElem_cons_zero, Act.put, List.setIfInBounds_toArray, List.set_cons_zero, List.set_cons_succ]
            refine wpAnyH_take (i := 17) (v := ?_) rfl (by kernel_rfl) (by kernel_rfl) (by kernel_rfl) (fun _ _ _ h => h) (Or.inl ⟨by rfl, ?_⟩) (by assumption) ?_
            rotate_left
            · (intro w hSw; (try dsimp only at hSw); go_simp; (try with_reducible rfl))
            try simp only [List.getElem_toArray, List.getElem_cons_succ, List.getElem_cons_zero, Act.put, List.setIfInBounds_toArray, List.set_cons_zero, List.set_cons_succ]
            refine wpAnyH_take (i := 18) (v := ?_) rfl (by kernel_rfl) (by kernel_rfl) (by kernel_rfl) (fun _ _ _ h => h) (Or.inl ⟨by rfl, ?_⟩) (by assumption) ?_
            rotate_left
            · (intro w hSw; (try dsimp only at hSw); go_simp; (try with_reducible rfl))
            try simp only [List.getElem_toArray, List.getElem_cons_succ, List.getElem_cons_zero, Act.put, List.setIfInBounds_toArray, List.set_cons_zero, List.set_cons_succ]
            refine wpAnyH_ready (rs := [19]) (by kernel_rfl) (by simp) (AllReadyH.cons rfl (fun K hK => ?_) (AllReadyH.nil))
            go_simp
            refine hK.out _ _ ?_ (fun hHeld => ?_)
            · exact trivial
            clear hK K
            try simp only [List.getElem_toArray, List.getElem_cons_succ, List.getElem_cons_zero, Act.put, List.setIfInBounds_toArray, List.set_cons_zero, List.set_cons_succ]
            refine wpAnyH_done (by kernel_rfl) ?_ _
            go_wp2_with fail
            go_ret
            exact ⟨_, _, _, _, rfl, HRF.out, HLF.out, HAF.out, HSF.out, HGF.out, hcap, hcm⟩
          · skip
            go_simp
            have hbl : Below wc.heap.size wc (wc.alloc (.cells #[.int .i64 u] 2)) := (Below.refl _ _).alloc (Nat.le_refl _) _
            have HO7 := Lib.hid (HO6.out.below hbl); have HS7 := Lib.hid (HS6.out.below hbl); have HG7 := Lib.hid (grown_trans HG6.out (grown_of_below hbl))
            have HRU := Lib.hid (rd_one 2 u wc)
            clear hbl
            generalize wc.heap.size = ub at HRU ⊢
            generalize wc.alloc (.cells #[.int .i64 u] 2) = wu at HO7 HS7 HG7 HRU ⊢
            refine hK.out _ _ ?_ (fun hHeld => ?_)
            · exact trivial
            clear hK K
            try simp only [List.getElem_toArray, List.getElem_cons_succ, List.getElem_cons_zero, Act.put, List.setIfInBounds_toArray, List.set_cons_zero, List.set_cons_succ]
            refine wpAnyH_ready (rs := [6]) (by kernel_rfl) (by simp) (AllReadyH.cons rfl (fun K hK => ?_) (AllReadyH.nil))
            have hin := HO7.out.in_ HN.out hkn
            rw [HXE.out] at hin
            obtain ⟨-, -, c2⟩ := hin
            go_simp
            refine hK.out _ _ ?_ (fun hHeld => ?_)
            · exact trivial
            clear hK K
            try simp only [List.getElem_toArray, List.getElem_cons_succ, List.getElem_cons_zero, Act.put, List.setIfInBounds_toArray, List.set_cons_zero, List.set_cons_succ]
            clear c2
            refine wpAnyH_ready (rs := [16]) (by kernel_rfl) (by simp) (AllReadyH.cons rfl (fun K hK => ?_) (AllReadyH.nil))
            have hxn : Own 2 wu w.heap.size (.slice xo xs.length xc) xs := by
              have := HO7.out.nx _ (mcOf_mem hkt)
              rw [HXE.out] at this
              exact this
            refine app_op _ (.tmp 43) (.tmp 52) rfl w.heap.size Try.underlying26 info64 _ xs rfl hxn _ _ _ [u] rfl HRU.out (by omega) HG7.out.size ?_
            intro vn wn on gn
            obtain ⟨ns, hns⟩ : ∃ ns, ns = xs ++ [u] := ⟨_, rfl⟩
            have hnl : ns.length ≤ 5 := by rw [hns, List.length_append, List.length_singleton]; omega
            rw [← hns] at on
            clear hns
            obtain ⟨na, nc, rfl, on, -⟩ := on.get
            obtain ⟨cN, fN, rN, lN, bN⟩ := HO7.out.fieldN ne_md HN.out hkn HXE.out HG7.out.size gn on
            have HSF := Lib.hid (HS7.out.belowB bN hp); have HGF := Lib.hid (grown_step HG7.out bN (Nat.le_refl _)); have HRF := Lib.hid rN; have HLF := Lib.hid lN
            have HAF := Lib.hid (anyMc_set (k := k) (y := ⟨⟨x0, x1, ns⟩, na, nc⟩) HAny.out hnl)
            clear on gn bN rN lN hxn
            refine hK.out _ _ ?_ (fun hHeld => ?_)
            · exact trivial
            clear hK K
            try simp only [List.getElem_toArray, List.getElem_cons_succ, List.getElem_cons_zero, Act.put, List.setIfInBounds_toArray, List.set_cons_zero, List.set_cons_succ]
            refine wpAnyH_take (i := 17) (v := ?_) rfl (by kernel_rfl) (by kernel_rfl) (by kernel_rfl) (fun _ _ _ h => h) (Or.inl ⟨by rfl, ?_⟩) (by assumption) ?_
            rotate_left
            · (intro w hSw; (try dsimp only at hSw); go_simp; (try with_reducible rfl))
            try simp only [List.getElem_toArray, List.getElem_cons_succ, List.getElem_cons_zero, Act.put, List.setIfInBounds_toArray, List.set_cons_zero, List.set_cons_succ]
            refine wpAnyH_take (i := 18) (v := ?_) rfl (by kernel_rfl) (by kernel_rfl) (by kernel_rfl) (fun _ _ _ h => h) (Or.inl ⟨by rfl, ?_⟩) (by assumption) ?_
            rotate_left
            · (intro w hSw; (try dsimp only at hSw); go_simp; (try with_reducible rfl))
            try simp only [List.getElem_toArray, List.getElem_cons_succ, List.getElem_cons_zero, Act.put, List.setIfInBounds_toArray, List.set_cons_zero, List.set_cons_succ]
            refine wpAnyH_ready (rs := [19]) (by kernel_rfl) (by simp) (AllReadyH.cons rfl (fun K hK => ?_) (AllReadyH.nil))
            go_simp
            refine hK.out _ _ ?_ (fun hHeld => ?_)
            · exact trivial
            clear hK K
            try simp only [List.getElem_toArray, List.getElem_cons_succ, List.getElem_cons_zero, Act.put, List.setIfInBounds_toArray, List.set_cons_zero, List.set_cons_succ]
            refine wpAnyH_done (by kernel_rfl) ?_ _
            go_wp2_with fail
            go_ret
            exact ⟨_, _, _, _, rfl, HRF.out, HLF.out, HAF.out, HSF.out, HGF.out, hcap, hcm⟩
    · skip
      go_simp
      refine (next_any _ _ _ HS4.out (by omega)).mono ?_
      rintro e wc ⟨z, rfl, hz0, hz1, -, hs, gc⟩
      have hz2 : z < 3 := hz1 (by omega)
      obtain ⟨z, rfl⟩ := Int.eq_ofNat_of_zero_le hz0
      have hz3 : z < 3 := by omega
      have HO5 := Lib.hid (HO4.out.old gc hp); have HS5 := Lib.hid hs; have HG5 := Lib.hid (grown_trans HG4.out gc)
      clear hz1 hs gc
      go_wp2_with fail
      refine hK.out _ _ ?_ (fun hHeld => ?_)
      · exact trivial
      clear hK K
      try simp only [List.getElem_toArray, List.getElem_cons_succ, List.getElem_cons_zero, Act.put, List.setIfInBounds_toArray, List.set_cons_zero, List.set_cons_succ]
      refine wpAnyH_ready (rs := [6, 10]) (by kernel_rfl) (by simp) (AllReadyH.cons rfl (fun K hK => ?_) (AllReadyH.cons rfl (fun K hK => ?_) (AllReadyH.nil)))
      · skip
        have hin := HO5.out.in_ HN.out hkn
        rw [HXE.out] at hin
        obtain ⟨-, -, c2⟩ := hin
        go_simp
        refine hK.out _ _ ?_ (fun hHeld => ?_)
        · exact trivial
        clear hK K
        try simp only [List.getElem_toArray, List.getElem_cons_succ, List.getElem_cons_zero, Act.put, List.setIfInBounds_toArray, List.set_cons_zero, List.set_cons_succ]
        clear c2
        refine wpAnyH_ready (rs := [10]) (by kernel_rfl) (by simp) (AllReadyH.cons rfl (fun K hK => ?_) (AllReadyH.nil))
        go_simp
        have hbl : Below wc.heap.size wc (wc.alloc (.cells #[.int .i64 (k : Int), .int .i64 (n : Int), .int .i64 0] 2)) := (Below.refl _ _).alloc (Nat.le_refl _) _
        have HO6 := Lib.hid (HO5.out.below hbl); have HS6 := Lib.hid (HS5.out.below hbl); have HG6 := Lib.hid (grown_trans HG5.out (grown_of_below hbl))
        have HL6 := Lib.hid (show LitAt 2 (wc.alloc (.cells #[.int .i64 (k : Int), .int .i64 (n : Int), .int .i64 0] 2)) wc.heap.size #[.int .i64 (k : Int), .int .i64 (n : Int), .int .i64 0] from LitAt.new _)
        have hpb : p < wc.heap.size := HS5.out.lt
        clear hbl
        generalize hwb : wc.heap.size = tb at HL6 hpb ⊢
        generalize wc.alloc (.cells #[.int .i64 (k : Int), .int .i64 (n : Int), .int .i64 0] 2) = wa6 at HO6 HS6 HG6 HL6 ⊢
        clear hwb
        refine hK.out _ _ ?_ (fun hHeld => ?_)
        · exact trivial
        clear hK K
        try simp only [List.getElem_toArray, List.getElem_cons_succ, List.getElem_cons_zero, Act.put, List.setIfInBounds_toArray, List.set_cons_zero, List.set_cons_succ]
        refine wpAnyH_take (i := 13) (v := ?_) rfl (by kernel_rfl) (by kernel_rfl) (by kernel_rfl) (fun _ _ _ h => h) (Or.inl ⟨by rfl, ?_⟩) (by assumption) ?_
        rotate_left
        · (intro w hSw; (try dsimp only at hSw); go_simp; (try with_reducible rfl))
        try simp only [List.getElem_toArray, List.getElem_cons_succ, List.getElem_cons_zero, Act.put, List.setIfInBounds_toArray, List.set_cons_zero, List.set_cons_succ]
        refine wpAnyH_ready (rs := [14]) (by kernel_rfl) (by simp) (AllReadyH.cons rfl (fun K hK => ?_) (AllReadyH.nil))
        obtain ⟨u, hu⟩ := three_ints (cs := #[.int .i64 (k : Int), .int .i64 (n : Int), .int .i64 0]) rfl hz3
        have hcell := (HL6.out.cell z).trans hu
        clear hu
        go_simp
        refine hK.out _ _ ?_ (fun hHeld => ?_)
        · exact trivial
        clear hK K
        try simp only [List.getElem_toArray, List.getElem_cons_succ, List.getElem_cons_zero, Act.put, List.setIfInBounds_toArray, List.set_cons_zero, List.set_cons_succ]
        clear hcell
        refine wpAnyH_ready (rs := [15]) (by kernel_rfl) (by simp) (AllReadyH.cons rfl (fun K hK => ?_) (AllReadyH.nil))
        go_simp
        have hbl : Below wa6.heap.size wa6 (wa6.alloc (.cells #[.int .i64 u] 2)) := (Below.refl _ _).alloc (Nat.le_refl _) _
        have HO7 := Lib.hid (HO6.out.below hbl); have HS7 := Lib.hid (HS6.out.below hbl); have HG7 := Lib.hid (grown_trans HG6.out (grown_of_below hbl))
        have HRU := Lib.hid (rd_one 2 u wa6)
        clear hbl
        generalize wa6.heap.size = ub at HRU ⊢
        generalize wa6.alloc (.cells #[.int .i64 u] 2) = wu at HO7 HS7 HG7 HRU ⊢
        refine hK.out _ _ ?_ (fun hHeld => ?_)
        · exact trivial
        clear hK K
        try simp only [List.getElem_toArray, List.getElem_cons_succ, List.getElem_cons_zero, Act.put, List.setIfInBounds_toArray, List.set_cons_zero, List.set_cons_succ]
        refine wpAnyH_ready (rs := [16]) (by kernel_rfl) (by simp) (AllReadyH.cons rfl (fun K hK => ?_) (AllReadyH.nil))
        have hxn : Own 2 wu w.heap.size (.slice xo xs.length xc) xs := by
          have := HO7.out.nx _ (mcOf_mem hkt)
          rw [HXE.out] at this
          exact this
        refine app_op _ (.tmp 43) (.tmp 52) rfl w.heap.size Try.underlying26 info64 _ xs rfl hxn _ _ _ [u] rfl HRU.out (by omega) HG7.out.size ?_
        intro vn wn on gn
        obtain ⟨ns, hns⟩ : ∃ ns, ns = xs ++ [u] := ⟨_, rfl⟩
        have hnl : ns.length ≤ 5 := by rw [hns, List.length_append, List.length_singleton]; omega
        rw [← hns] at on
        clear hns
        obtain ⟨na, nc, rfl, on, -⟩ := on.get
        obtain ⟨cN, fN, rN, lN, bN⟩ := HO7.out.fieldN ne_md HN.out hkn HXE.out HG7.out.size gn on
        have HSF := Lib.hid (HS7.out.belowB bN hp); have HGF := Lib.hid (grown_step HG7.out bN (Nat.le_refl _)); have HRF := Lib.hid rN; have HLF := Lib.hid lN
        have HAF := Lib.hid (anyMc_set (k := k) (y := ⟨⟨x0, x1, ns⟩, na, nc⟩) HAny.out hnl)
        clear on gn bN rN lN hxn
        refine hK.out _ _ ?_ (fun hHeld => ?_)
        · exact trivial
        clear hK K
        try simp only [List.getElem_toArray, List.getElem_cons_succ, List.getElem_cons_zero, Act.put, List.setIfInBounds_toArray, List.set_cons_zero, List.set_cons_succ]
        refine wpAnyH_take (i := 17) (v := ?_) rfl (by kernel_rfl) (by kernel_rfl) (by kernel_rfl) (fun _ _ _ h => h) (Or.inl ⟨by rfl, ?_⟩) (by assumption) ?_
        rotate_left
        · (intro w hSw; (try dsimp only at hSw); go_simp; (try with_reducible rfl))
        try simp only [List.getElem_toArray, List.getElem_cons_succ, List.getElem_cons_zero, Act.put, List.setIfInBounds_toArray, List.set_cons_zero, List.set_cons_succ]
        refine wpAnyH_take (i := 18) (v := ?_) rfl (by kernel_rfl) (by kernel_rfl) (by kernel_rfl) (fun _ _ _ h => h) (Or.inl ⟨by rfl, ?_⟩) (by assumption) ?_
        rotate_left
        · (intro w hSw; (try dsimp only at hSw); go_simp; (try with_reducible rfl))
        try simp only [List.getElem_toArray, List.getElem_cons_succ, List.getElem_cons_zero, Act.put, List.setIfInBounds_toArray, List.set_cons_zero, List.set_cons_succ]
        refine wpAnyH_ready (rs := [19]) (by kernel_rfl) (by simp) (AllReadyH.cons rfl (fun K hK => ?_) (AllReadyH.nil))
        go_simp
        refine hK.out _ _ ?_ (fun hHeld => ?_)
        · exact trivial
        clear hK K
        try simp only [List.getElem_toArray, List.getElem_cons_succ, List.getElem_cons_zero, Act.put, List.setIfInBounds_toArray, List.set_cons_zero, List.set_cons_succ]
        refine wpAnyH_done (by kernel_rfl) ?_ _
        go_wp2_with fail
        go_ret
        exact ⟨_, _, _, _, rfl, HRF.out, HLF.out, HAF.out, HSF.out, HGF.out, hcap, hcm⟩
      · skip
        go_simp
        have hbl : Below wc.heap.size wc (wc.alloc (.cells #[.int .i64 (k : Int), .int .i64 (n : Int), .int .i64 0] 2)) := (Below.refl _ _).alloc (Nat.le_refl _) _
        have HO6 := Lib.hid (HO5.out.below hbl); have HS6 := Lib.hid (HS5.out.below hbl); have HG6 := Lib.hid (grown_trans HG5.out (grown_of_below hbl))
        have HL6 := Lib.hid (show LitAt 2 (wc.alloc (.cells #[.int .i64 (k : Int), .int .i64 (n : Int), .int .i64 0] 2)) wc.heap.size #[.int .i64 (k : Int), .int .i64 (n : Int), .int .i64 0] from LitAt.new _)
        have hpb : p < wc.heap.size := HS5.out.lt
        clear hbl
        generalize hwb : wc.heap.size = tb at HL6 hpb ⊢
        generalize wc.alloc (.cells #[.int .i64 (k : Int), .int .i64 (n : Int), .int .i64 0] 2) = wa6 at HO6 HS6 HG6 HL6 ⊢
        clear hwb
        refine hK.out _ _ ?_ (fun hHeld => ?_)
        · exact trivial
        clear hK K
        try simp only [List.getElem_toArray, List.getElem_cons_succ, List.getElem_cons_zero, Act.put, List.setIfInBounds_toArray, List.set_cons_zero, List.set_cons_succ]
        refine wpAnyH_take (i := 13) (v := ?_) rfl (by kernel_rfl) (by kernel_rfl) (by kernel_rfl) (fun _ _ _ h => h) (Or.inl ⟨by rfl, ?_⟩) (by assumption) ?_
        rotate_left
        · (intro w hSw; (try dsimp only at hSw); go_simp; (try with_reducible rfl))
        try simp only [List.getElem_toArray, List.getElem_cons_succ, List.getElem_cons_zero, Act.put, List.setIfInBounds_toArray, List.set_cons_zero, List.set_cons_succ]
        refine wpAnyH_ready (rs := [6, 14]) (by kernel_rfl) (by simp) (AllReadyH.cons rfl (fun K hK => ?_) (AllReadyH.cons rfl (fun K hK => ?_) (AllReadyH.nil)))
        · skip
          have hin := HO6.out.in_ HN.out hkn
          rw [HXE.out] at hin
          obtain ⟨-, -, c2⟩ := hin
          go_simp
          refine hK.out _ _ ?_ (fun hHeld => ?_)
          · exact trivial
          clear hK K
          try simp only [List.getElem_toArray, List.getElem_cons_succ, List.getElem_cons_zero, Act.put, List.setIfInBounds_toArray, List.set_cons_zero, List.set_cons_succ]
          clear c2
          refine wpAnyH_ready (rs := [14]) (by kernel_rfl) (by simp) (AllReadyH.cons rfl (fun K hK => ?_) (AllReadyH.nil))
          obtain ⟨u, hu⟩ := three_ints (cs := #[.int .i64 (k : Int), .int .i64 (n : Int), .int .i64 0]) rfl hz3
          have hcell := (HL6.out.cell z).trans hu
          clear hu
          go_simp
          refine hK.out _ _ ?_ (fun hHeld => ?_)
          · exact trivial
          clear hK K
          try simp only [List.getElem_toArray, List.getElem_cons_succ, List.getElem_cons_zero, Act.put, List.setIfInBounds_toArray, List.set_cons_zero, List.set_cons_succ]
          clear hcell
          refine wpAnyH_ready (rs := [15]) (by kernel_rfl) (by simp) (AllReadyH.cons rfl (fun K hK => ?_) (AllReadyH.nil))
          go_simp
          have hbl : Below wa6.heap.size wa6 (wa6.alloc (.cells #[.int .i64 u] 2)) := (Below.refl _ _).alloc (Nat.le_refl _) _
          have HO7 := Lib.hid (HO6.out.below hbl); have HS7 := Lib.hid (HS6.out.below hbl); have HG7 := Lib.hid (grown_trans HG6.out (grown_of_below hbl))
          have HRU := Lib.hid (rd_one 2 u wa6)
          clear hbl
          generalize wa6.heap.size = ub at HRU ⊢
          generalize wa6.alloc (.cells #[.int .i64 u] 2) = wu at HO7 HS7 HG7 HRU ⊢
          refine hK.out _ _ ?_ (fun hHeld => ?_)
          · exact trivial
          clear hK K
          try simp only [List.getElem_toArray, List.getElem_cons_succ, List.getElem_cons_zero, Act.put, List.setIfInBounds_toArray, List.set_cons_zero, List.set_cons_succ]
          refine wpAnyH_ready (rs := [16]) (by kernel_rfl) (by simp) (AllReadyH.cons rfl (fun K hK => ?_) (AllReadyH.nil))
          have hxn : Own 2 wu w.heap.size (.slice xo xs.length xc) xs := by
            have := HO7.out.nx _ (mcOf_mem hkt)
            rw [HXE.out] at this
            exact this
          refine app_op _ (.tmp 43) (.tmp 52) rfl w.heap.size Try.underlying26 info64 _ xs rfl hxn _ _ _ [u] rfl HRU.out (by omega) HG7.out.size ?_
          intro vn wn on gn
          obtain ⟨ns, hns⟩ : ∃ ns, ns = xs ++ [u] := ⟨_, rfl⟩
          have hnl : ns.length ≤ 5 := by rw [hns, List.length_append, List.length_singleton]; omega
          rw [← hns] at on
          clear hns
          obtain ⟨na, nc, rfl, on, -⟩ := on.get
          obtain ⟨cN, fN, rN, lN, bN⟩ := HO7.out.fieldN ne_md HN.out hkn HXE.out HG7.out.size gn on
          have HSF := Lib.hid (HS7.out.belowB bN hp); have HGF := Lib.hid (grown_step HG7.out bN (Nat.le_refl _)); have HRF := Lib.hid rN; have HLF := Lib.hid lN
          have HAF := Lib.hid (anyMc_set (k := k) (y := ⟨⟨x0, x1, ns⟩, na, nc⟩) HAny.out hnl)
          clear on gn bN rN lN hxn
          refine hK.out _ _ ?_ (fun hHeld => ?_)
          · exact trivial
          clear hK K
          try simp only [List.getElem_toArray, List.getElem_cons_succ, List.getElem_cons_zero, Act.put, List.setIfInBounds_toArray, List.set_cons_zero, List.set_cons_succ]
          refine wpAnyH_take (i := 17) (v := ?_) rfl (by kernel_rfl) (by kernel_rfl) (by kernel_rfl) (fun _ _ _ h => h) (Or.inl ⟨by rfl, ?_⟩) (by assumption) ?_
          rotate_left
          · (intro w hSw; (try dsimp only at hSw); go_simp; (try with_reducible rfl))
          try simp only [List.getElem_toArray, List.getElem_cons_succ, List.getElem_cons_zero, Act.put, List.setIfInBounds_toArray, List.set_cons_zero, List.set_cons_succ]
          refine wpAnyH_take (i := 18) (v := ?_) rfl (by kernel_rfl) (by kernel_rfl) (by kernel_rfl) (fun _ _ _ h => h) (Or.inl ⟨by rfl, ?_⟩) (by assumption) ?_
          rotate_left
          · (intro w hSw; (try dsimp only at hSw); go_simp; (try with_reducible rfl))
          try simp only [List.getElem_toArray, List.getElem_cons_succ, List.getElem_cons_zero, Act.put, List.setIfInBounds_toArray, List.set_cons_zero, List.set_cons_succ]
          refine wpAnyH_ready (rs := [19]) (by kernel_rfl) (by simp) (AllReadyH.cons rfl (fun K hK => ?_) (AllReadyH.nil))
          go_simp
          refine hK.out _ _ ?_ (fun hHeld => ?_)
          · exact trivial
          clear hK K
          try simp only [List.getElem_toArray, List.getElem_cons_succ, List.getElem_cons_zero, Act.put, List.setIfInBounds_toArray, List.set_cons_zero, List.set_cons_succ]
          refine wpAnyH_done (by kernel_rfl) ?_ _
          go_wp2_with fail
          go_ret
          exact ⟨_, _, _, _, rfl, HRF.out, HLF.out, HAF.out, HSF.out, HGF.out, hcap, hcm⟩
        · skip
          obtain ⟨u, hu⟩ := three_ints (cs := #[.int .i64 (k : Int), .int .i64 (n : Int), .int .i64 0]) rfl hz3
          have hcell := (HL6.out.cell z).trans hu
          clear hu
          go_simp
          refine hK.out _ _ ?_ (fun hHeld => ?_)
          · exact trivial
          clear hK K
          try simp only [List.getElem_toArray, List.getElem_cons_succ, List.getElem_cons_zero, Act.put, List.setIfInBounds_toArray, List.set_cons_zero, List.set_cons_succ]
          clear hcell
          refine wpAnyH_ready (rs := [6, 15]) (by kernel_rfl) (by simp) (AllReadyH.cons rfl (fun K hK => ?_) (AllReadyH.cons rfl (fun K hK => ?_) (AllReadyH.nil)))
          · skip
            have hin := HO6.out.in_ HN.out hkn
            rw [HXE.out] at hin
            obtain ⟨-, -, c2⟩ := hin
            go_simp
            refine hK.out _ _ ?_ (fun hHeld => ?_)
            · exact trivial
            clear hK K
            try simp only [List.getElem_toArray, List.getElem_cons_succ, List.getElem_cons_zero, Act.put, List.setIfInBounds_toArray, List.set_cons_zero, List.set_cons_succ]
            clear c2
            refine wpAnyH_ready (rs := [15]) (by kernel_rfl) (by simp) (AllReadyH.cons rfl (fun K hK => ?_) (AllReadyH.nil))
            go_simp
            have hbl : Below wa6.heap.size wa6 (wa6.alloc (.cells #[.int .i64 u] 2)) := (Below.refl _ _).alloc (Nat.le_refl _) _
            have HO7 := Lib.hid (HO6.out.below hbl); have HS7 := Lib.hid (HS6.out.below hbl); have HG7 := Lib.hid (grown_trans HG6.out (grown_of_below hbl))
            have HRU := Lib.hid (rd_one 2 u wa6)
            clear hbl
            generalize wa6.heap.size = ub at HRU ⊢
            generalize wa6.alloc (.cells #[.int .i64 u] 2) = wu at HO7 HS7 HG7 HRU ⊢
            refine hK.out _ _ ?_ (fun hHeld => ?_)
            · exact trivial
            clear hK K
            try simp only [List.getElem_toArray, List.getElem_cons_succ, List.getElem_cons_zero, Act.put, List.setIfInBounds_toArray, List.set_cons_zero, List.set_cons_succ]
            refine wpAnyH_ready (rs := [16]) (by kernel_rfl) (by simp) (AllReadyH.cons rfl (fun K hK => ?_) (AllReadyH.nil))
            have hxn : Own 2 wu w.heap.size (.slice xo xs.length xc) xs := by
              have := HO7.out.nx _ (mcOf_mem hkt)
              rw [HXE.out] at this
              exact this
            refine app_op _ (.tmp 43) (.tmp 52) rfl w.heap.size Try.underlying26 info64 _ xs rfl hxn _ _ _ [u] rfl HRU.out (by omega) HG7.out.size ?_
            intro vn wn on gn
            obtain ⟨ns, hns⟩ : ∃ ns, ns = xs ++ [u] := ⟨_, rfl⟩
            have hnl : ns.length ≤ 5 := by rw [hns, List.length_append, List.length_singleton]; omega
            rw [← hns] at on
            clear hns
            obtain ⟨na, nc, rfl, on, -⟩ := on.get
            obtain ⟨cN, fN, rN, lN, bN⟩ := HO7.out.fieldN ne_md HN.out hkn HXE.out HG7.out.size gn on
            have HSF := Lib.hid (HS7.out.belowB bN hp); have HGF := Lib.hid (grown_step HG7.out bN (Nat.le_refl _)); have HRF := Lib.hid rN; have HLF := Lib.hid lN
            have HAF := Lib.hid (anyMc_set (k := k) (y := ⟨⟨x0, x1, ns⟩, na, nc⟩) HAny.out hnl)
            clear on gn bN rN lN hxn
            refine hK.out _ _ ?_ (fun hHeld => ?_)
            · exact trivial
            clear hK K
            try simp only [List.getElem_toArray, List.getElem_cons_succ, List.getElem_cons_zero, Act.put, List.setIfInBounds_toArray, List.set_cons_zero, List.set_cons_succ]
            refine wpAnyH_take (i := 17) (v := ?_) rfl (by kernel_rfl) (by kernel_rfl) (by kernel_rfl) (fun _ _ _ h => h) (Or.inl ⟨by rfl, ?_⟩) (by assumption) ?_
            rotate_left
            · (intro w hSw; (try dsimp only at hSw); go_simp; (try with_reducible rfl))
            try simp only [List.getElem_toArray, List.getElem_cons_succ, List.getElem_cons_zero, Act.put, List.setIfInBounds_toArray, List.set_cons_zero, List.set_cons_succ]
            refine wpAnyH_take (i := 18) (v := ?_) rfl (by kernel_rfl) (by kernel_rfl) (by kernel_rfl) (fun _ _ _ h => h) (Or.inl ⟨by rfl, ?_⟩) (by assumption) ?_
            rotate_left
            · (intro w hSw; (try dsimp only at hSw); go_simp; (try with_reducible rfl))
            try simp only [List.getElem_toArray, List.getElem_cons_succ, List.getElem_cons_zero, Act.put, List.setIfInBounds_toArray, List.set_cons_zero, List.set_cons_succ]
            refine wpAnyH_ready (rs := [19]) (by kernel_rfl) (by simp) (AllReadyH.cons rfl (fun K hK => ?_) (AllReadyH.nil))
            go_simp
            refine hK.out _ _ ?_ (fun hHeld => ?_)
            · exact trivial
            clear hK K
            try simp only [List.getElem_toArray, List.getElem_cons_succ, List.getElem_cons_zero, Act.put, List.setIfInBounds_toArray, List.set_cons_zero, List.set_cons_succ]
            refine wpAnyH_done (by kernel_rfl) ?_ _
            go_wp2_with fail
            go_ret
            exact ⟨_, _, _, _, rfl, HRF.out, HLF.out, HAF.out, HSF.out, HGF.out, hcap, hcm⟩
          · skip
            go_simp
            have hbl : Below wa6.heap.size wa6 (wa6.alloc (.cells #[.int .i64 u] 2)) := (Below.refl _ _).alloc (Nat.le_refl _) _
            have HO7 := Lib.hid (HO6.out.below hbl); have HS7 := Lib.hid (HS6.out.below hbl); have HG7 := Lib.hid (grown_trans HG6.out (grown_of_below hbl))
            have HRU := Lib.hid (rd_one 2 u wa6)
            clear hbl
            generalize wa6.heap.size = ub at HRU ⊢
            generalize wa6.alloc (.cells #[.int .i64 u] 2) = wu at HO7 HS7 HG7 HRU ⊢
            refine hK.out _ _ ?_ (fun hHeld => ?_)
            · exact trivial
            clear hK K
            try simp only [List.getElem_toArray, List.getElem_cons_succ, List.getElem_cons_zero, Act.put, List.setIfInBounds_toArray, List.set_cons_zero, List.set_cons_succ]
            refine wpAnyH_ready (rs := [6]) (by kernel_rfl) (by simp) (AllReadyH.cons rfl (fun K hK => ?_) (AllReadyH.nil))
            have hin := HO7.out.in_ HN.out hkn
            rw [HXE.out] at hin
            obtain ⟨-, -, c2⟩ := hin
            go_simp
            refine hK.out _ _ ?_ (fun hHeld => ?_)
            · exact trivial
            clear hK K
            try simp only [List.getElem_toArray, List.getElem_cons_succ, List.getElem_cons_zero, Act.put, List.setIfInBounds_toArray, List.set_cons_zero, List.set_cons_succ]
            clear c2
            refine wpAnyH_ready (rs := [16]) (by kernel_rfl) (by simp) (AllReadyH.cons rfl (fun K hK => ?_) (AllReadyH.nil))
            have hxn : Own 2 wu w.heap.size (.slice xo xs.length xc) xs := by
              have := HO7.out.nx _ (mcOf_mem hkt)
              rw [HXE.out] at this
              exact this
            refine app_op _ (.tmp 43) (.tmp 52) rfl w.heap.size Try.underlying26 info64 _ xs rfl hxn _ _ _ [u] rfl HRU.out (by omega) HG7.out.size ?_
            intro vn wn on gn
            obtain ⟨ns, hns⟩ : ∃ ns, ns = xs ++ [u] := ⟨_, rfl⟩
            have hnl : ns.length ≤ 5 := by rw [hns, List.length_append, List.length_singleton]; omega
            rw [← hns] at on
            clear hns
            obtain ⟨na, nc, rfl, on, -⟩ := on.get
            obtain ⟨cN, fN, rN, lN, bN⟩ := HO7.out.fieldN ne_md HN.out hkn HXE.out HG7.out.size gn on
            have HSF := Lib.hid (HS7.out.belowB bN hp); have HGF := Lib.hid (grown_step HG7.out bN (Nat.le_refl _)); have HRF := Lib.hid rN; have HLF := Lib.hid lN
            have HAF := Lib.hid (anyMc_set (k := k) (y := ⟨⟨x0, x1, ns⟩, na, nc⟩) HAny.out hnl)
            clear on gn bN rN lN hxn
            refine hK.out _ _ ?_ (fun hHeld => ?_)
            · exact trivial
            clear hK K
            try simp only [List.getElem_toArray, List.getElem_cons_succ, List.getElem_cons_zero, Act.put, List.setIfInBounds_toArray, List.set_cons_zero, List.set_cons_succ]
            refine wpAnyH_take (i := 17) (v := ?_) rfl (by kernel_rfl) (by kernel_rfl) (by kernel_rfl) (fun _ _ _ h => h) (Or.inl ⟨by rfl, ?_⟩) (by assumption) ?_
            rotate_left
            · (intro w hSw; (try dsimp only at hSw); go_simp; (try with_reducible rfl))
            try simp only [List.getElem_toArray, List.getElem_cons_succ, List.getElem_cons_zero, Act.put, List.setIfInBounds_toArray, List.set_cons_zero, List.set_cons_succ]
            refine wpAnyH_take (i := 18) (v := ?_) rfl (by kernel_rfl) (by kernel_rfl) (by kernel_rfl) (fun _ _ _ h => h) (Or.inl ⟨by rfl, ?_⟩) (by assumption) ?_
            rotate_left
            · (intro w hSw; (try dsimp only at hSw); go_simp; (try with_reducible rfl))
            try simp only [List.getElem_toArray, List.getElem_cons_succ, List.getElem_cons_zero, Act.put, List.setIfInBounds_toArray, List.set_cons_zero, List.set_cons_succ]
            refine wpAnyH_ready (rs := [19]) (by kernel_rfl) (by simp) (AllReadyH.cons rfl (fun K hK => ?_) (AllReadyH.nil))
            go_simp
            refine hK.out _ _ ?_ (fun hHeld => ?_)
            · exact trivial
            clear hK K
            try simp only [List.getElem_toArray, List.getElem_cons_succ, List.getElem_cons_zero, Act.put, List.setIfInBounds_toArray, List.set_cons_zero, List.set_cons_succ]
            refine wpAnyH_done (by kernel_rfl) ?_ _
            go_wp2_with fail
            go_ret
            exact ⟨_, _, _, _, rfl, HRF.out, HLF.out, HAF.out, HSF.out, HGF.out, hcap, hcm⟩
  have t2 : (y == 2) = false := by simp [h2]
  clear h2
  by_cases h3 : y = 3
  · subst h3
    go_wp2_with fail
    go_ret
    exact ⟨_, _, _, [], rfl, RdM.nil_, ⟨fun _ _ e => (by cases e), fun _ h => (by cases h)⟩, ⟨by simp, fun x hx => by cases hx⟩, HS3.out, HG3.out, Nat.zero_le _, Nat.zero_le _⟩
  have t3 : (y == 3) = false := by simp [h3]
  clear h3
  by_cases h4 : y = 4
  · subst h4
    have hs3 : w3.heap.size ≤ w3.heap.size := Nat.le_refl _
    go_wp2_with (at_make; refine make_md _ (EI := 2) rfl _ _ rfl w3.heap.size Try.underlying39 infoMd _ _ _ _ 17 rfl rfl rfl rfl (by omega) hs3 ?_; intro w4 o4 b4)
    have HR4 := Lib.hid (rdM_row o4.row o4.nx)
    have HS4 := Lib.hid (HS3.out.below b4); have HG4 := Lib.hid (grown_trans HG3.out (grown_of_below b4))
    clear o4 b4
    go_wp2_with fail
    go_ret
    obtain ⟨ao4, cap4, e4, r4, l4⟩ := HR4.out
    rw [List.length_replicate] at e4 r4
    cases e4
    exact ⟨_, _, _, _, rfl, r4, l4.more (HG3.out.size), ⟨by rw [List.length_replicate]; omega, fun c hc => by rw [List.eq_of_mem_replicate hc]; exact Nat.zero_le _⟩, HS4.out, HG4.out, by simp, by simp⟩
  have t4 : (y == 4) = false := by simp [h4]
  clear h4
  have hrd : RdM w3 (some ⟨g, 0, none⟩) n cs ∧ LowM w.heap.size (some ⟨g, 0, none⟩) cs := by
    obtain ⟨ao', cap', e, r⟩ := rdM_row HO3.out.row HO3.out.nx
    rw [HN.out] at e r
    cases e
    exact r
  have HRD := Lib.hid hrd; clear hrd
  go_wp2_with fail
  go_ret
  exact ⟨_, _, _, cs, rfl, HRD.out.1, HRD.out.2, HAny.out, HS3.out, HG3.out, hcap, hcm⟩
theorem l11DrawAny_any (p : Nat) (w : World) (hs : Src 107 w p) : Calls Try.prog 67 #[.pointer (some ⟨p, 0, none⟩)] w (DrawnMR w p) := by
  refine (l11DrawAny_cap p w hs).mono ?_
  rintro e w' ⟨ao, n, cap, cs, h1, h2, h3, h4, h5, h6, -, -⟩
  exact ⟨ao, n, cap, cs, h1, h2, h3, h4, h5, h6⟩
end Go.Proofs.Ytpedlofckbplmaa
