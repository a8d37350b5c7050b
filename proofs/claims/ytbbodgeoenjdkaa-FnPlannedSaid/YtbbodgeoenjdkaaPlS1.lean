/-
  Chapter 16: the table of the model in memory; a booking that fits, a booking written.
-/
import Derived.Test.YtbbodgeoenjdkaaPl9
import Derived.Test.YtbbodgeoenjdkaaOneB
namespace Go.Proofs.Ytbbodgeoenjdkaa
open Go.RowKit

/-- All old memory but the blocks from lo to hi is as it was. -/
structure Kr (w w' : World) (lo hi : Nat) : Prop where
  os : w'.os = w.os
  tape : w'.tape = w.tape
  output : w'.output = w.output
  size : w.heap.size ≤ w'.heap.size
  block : ∀ k, k < w.heap.size → (k < lo ∨ hi ≤ k) → w'.heap[k]? = w.heap[k]?
section
variable {w w' w'' : World} {lo hi g : Nat}
theorem Kr.refl (w : World) (lo hi : Nat) : Kr w w lo hi := ⟨rfl, rfl, rfl, Nat.le_refl _, fun _ _ _ => rfl⟩
theorem Kr.trans (h1 : Kr w w' lo hi) (h2 : Kr w' w'' lo hi) : Kr w w'' lo hi :=
  ⟨h2.os.trans h1.os, h2.tape.trans h1.tape, h2.output.trans h1.output, Nat.le_trans h1.size h2.size, fun k hk a => (h2.block k (Nat.lt_of_lt_of_le hk h1.size) a).trans (h1.block k hk a)⟩
theorem Kr.of_below (h : Below w.heap.size w w') : Kr w w' lo hi := ⟨h.os, h.tape, h.output, h.size, fun k hk _ => h.block k hk⟩
theorem Kr.of_grown (h : w.grownBy w' (some g)) (h1 : lo ≤ g) (h2 : g < hi) : Kr w w' lo hi :=
  ⟨h.os, h.tape, h.output, h.size, fun k hk a => h.block k hk (fun e => by cases e; omega)⟩
theorem Kr.below (h : Kr w w' lo hi) (hB : lo ≤ w.heap.size) : Below lo w w' :=
  ⟨h.os, h.tape, h.output, h.size, fun k hk => h.block k (by omega) (.inl hk)⟩
theorem Kr.own {base E size n : Nat} {v : Value} {cs : List Value} (h : Kr w w' lo hi) (ho : w.ownsRow base E size v n cs) (hp : hi ≤ base) : w'.ownsRow base E size v n cs := by
  obtain ⟨h1, h2⟩ := ho
  refine ⟨h1, ?_⟩
  rcases h2 with h2 | ⟨g, cap, cur, e, hg, hh, r⟩
  · exact .inl h2
  · exact .inr ⟨g, cap, cur, e, hg, by rw [h.block g (Array.getElem?_eq_some_iff.1 hh).1 (by omega)]; exact hh, r⟩
theorem BkBk.kr {T b : Nat} {x : Bk} (h : BkBk T w b x) (hk : Kr w w' lo hi) (h1 : hi ≤ b) : BkBk T w' b x := (hk.block b h.lt (.inr h1)).trans h
theorem DmBk.kr {T b : Nat} {x : Dm} (h : DmBk T w b x) (hk : Kr w w' lo hi) (h1 : hi ≤ b) : DmBk T w' b x := (hk.block b h.lt (.inr h1)).trans h
end
theorem own_setAt {E base g n cap : Nat} {w : World} {xs : List Int} (h : Own E w base (.slice (some ⟨g, 0, none⟩) n cap) xs) (hl : xs.length = n) (k : Nat) (v : Int) :
    w.frozen? ⟨g, k, none⟩ = false ∧ Own E (w.setCell ⟨g, k, none⟩ (.int .i64 v)) base (.slice (some ⟨g, 0, none⟩) n cap) (xs.set k v) := by
  unfold Own at h ⊢
  rw [hl] at h
  have h2 := (World.ownsRow.stored h k (.int .i64 v)).1
  rw [← List.map_set] at h2
  rw [List.length_set, hl]
  exact ⟨World.ownsRow.frozenAt h _, h2⟩
/-- The slice at 'ao' of length R reads as the rows of a table. -/
def RdTab (w : World) (ao : Option Addr) (R S : Nat) (U : Tab) : Prop := ∃ rs, RdT w ao R rs ∧ rwx rs = plRows U R S
/-- A table of the call's own, its blocks between lo and hi. -/
def TbAt (w : World) (lo hi : Nat) (v : Value) (R S : Nat) (U : Tab) : Prop :=
  ∃ rs, OwnT 45 2 w lo v rs ∧ rwx rs = plRows U R S ∧ (∀ c ∈ rs, ∀ k, c.v.ownBlock = some k → k < hi) ∧ ∀ k, v.ownBlock = some k → k < hi
/-- No cell of a table is a number below nought but -1. -/
def tabOk (U : Tab) : Prop := ∀ r s, U r s = -1 ∨ 0 ≤ U r s
theorem tabOk_zero : tabOk tab0 := fun _ _ => .inl rfl
theorem tabOk_put {U : Tab} (h : tabOk U) (R : Nat) (x : Dm) (b : Bk) (i : Nat) : tabOk (plPut U R x b (i : Int)) := by
  intro r s
  unfold plPut plPutTo
  split
  · exact .inr (by omega)
  · exact h r s
theorem plRows_len (U : Tab) (R S : Nat) : (plRows U R S).length = R := by simp [plRows]
theorem plRows_at {U : Tab} {R S r : Nat} (h : r < R) : (plRows U R S).getD r [] = plRow U S r := by simp [plRows, plRow, List.getD, h]
section
variable {w w' : World} {ao : Option Addr} {R S lo hi : Nat} {U : Tab} {v : Value}
theorem RdTab.below (h : RdTab w ao R S U) (hb : Below w.heap.size w w') : RdTab w' ao R S U := by
  obtain ⟨rs, h1, h2⟩ := h
  exact ⟨rs, h1.below hb, h2⟩
theorem RdTab.row (h : RdTab w ao R S U) {r : Nat} (hr : r < R) : ∃ b off ra rc, ao = some ⟨b, off, none⟩ ∧ w.cell? ⟨b, off + r, none⟩ = some (.slice ra S rc) ∧ S ≤ rc ∧ rc ≤ 9223372036854775807 ∧ Rd w ra S (plRow U S r) := by
  obtain ⟨rs, h1, h2⟩ := h
  have hl : rs.length = R := h1.len
  obtain ⟨b, off, e, -, hc, hrd⟩ := h1.at hr
  have hx : (rwOf rs r).xs = plRow U S r := by rw [rwOf_x (by omega), h2, plRows_at hr]
  have hS : (rwOf rs r).xs.length = S := by rw [hx, plRow_len]
  have hrd1 := hrd.rd
  have hle := hrd.le
  rw [hS] at hc hrd1 hle
  rw [hx] at hrd1
  exact ⟨b, off, _, _, e, hc, hle, hrd.cap, hrd1⟩
theorem RdTab.cell (h : RdTab w ao R S U) {r s : Nat} (hr : r < R) (hs : s < S) : ∃ b off g go rc, ao = some ⟨b, off, none⟩ ∧ w.cell? ⟨b, off + r, none⟩ = some (.slice (some ⟨g, go, none⟩) S rc) ∧ S ≤ rc ∧ w.cell? ⟨g, go + s, none⟩ = some (.int .i64 (U r s)) := by
  obtain ⟨b, off, ra, rc, e, hc, hle, -, hrd⟩ := h.row hr
  obtain ⟨g, go, e2, hcell⟩ := hrd.here (by omega)
  subst e2
  have := hcell s hs
  rw [plRow_at hs] at this
  exact ⟨b, off, g, go, rc, e, hc, hle, this⟩
theorem TbAt.below (h : TbAt w lo hi v R S U) (hb : Below w.heap.size w w') : TbAt w' lo hi v R S U := by
  obtain ⟨rs, h1, h2⟩ := h
  exact ⟨rs, h1.below hb, h2⟩
theorem TbAt.get (h : TbAt w lo hi v R S U) : ∃ ao cap, v = .slice ao R cap ∧ R ≤ cap ∧ RdTab w ao R S U := by
  obtain ⟨rs, h1, h2, -⟩ := h
  have hl : rs.length = R := by rw [← rwx_len, h2, plRows_len]
  obtain ⟨ao, cap, rfl, hr, hle, -⟩ := h1.form
  rw [hl] at hr hle
  exact ⟨ao, cap, by rw [hl], hle, rs, hr, h2⟩
/-- One cell of a table of the call's own written. -/
theorem TbAt.set (h : TbAt w lo hi v R S U) {r s : Nat} (hr : r < R) (hs : s < S) (x : Int) :
    ∃ b off g rc cap, v = .slice (some ⟨b, off, none⟩) R cap ∧ w.cell? ⟨b, off + r, none⟩ = some (.slice (some ⟨g, 0, none⟩) S rc) ∧ S ≤ rc ∧ w.cell? ⟨g, s, none⟩ = some (.int .i64 (U r s)) ∧ w.frozen? ⟨g, s, none⟩ = false ∧ (b ≠ g ∧ lo ≤ g ∧ g < hi) ∧
      TbAt (w.setCell ⟨g, s, none⟩ (.int .i64 x)) lo hi v R S (setTab U r s x) := by
  obtain ⟨rs, h1, h2, h3, h4⟩ := h
  have hl : rs.length = R := by rw [← rwx_len, h2, plRows_len]
  have hx : (rwOf rs r).xs = plRow U S r := by rw [rwOf_x (by omega), h2, plRows_at hr]
  have hS : (rwOf rs r).xs.length = S := by rw [hx, plRow_len]
  have hown := h1.at_ (k := r) (by omega)
  obtain ⟨ao, cap, rfl, hrd, hle, -, -⟩ := h1.form
  obtain ⟨b, off, e, -, hc, hrr⟩ := hrd.at (i := r) (by omega)
  obtain ⟨ra, rc, e1, hrow, hle2, -, hcase⟩ := hown.form
  have hle1 := hrr.le
  generalize hq : rwOf rs r = q at *
  obtain ⟨qx, qa, qc⟩ := q
  dsimp only at hx hS hc hle1
  unfold Rw.v at e1 hcase hown
  dsimp only at e1 hcase hown
  rcases hcase with hcase | ⟨g, hg, hg1, hg2⟩
  · simp only [Value.slice.injEq] at hcase
    omega
  · cases e1
    subst hg
    have hset := own_setAt hown rfl s x
    have hbg : b ≠ g := fun e3 => rowsT_ne h1.row (show w.ownsRow lo 2 1 _ _ _ from hown) (by decide) b (by rw [e]; rfl) (by rw [e3]; rfl)
    have hmem := rwOf_mem (rs := rs) (i := r) (by omega)
    have hb := h3 _ hmem g (by rw [hq]; rfl)
    have hin := h1.inPlace (w' := w.setCell ⟨g, s, none⟩ (.int .i64 x)) (by decide) (k := r) (by omega) (ys := qx.set s x) (by rw [hq, List.length_set]) (by rw [hq]; exact hset.2) (by rw [hq]; exact grown_set w g s _)
    rw [hq] at hin
    dsimp only at hin
    subst e
    dsimp only at hrow
    refine ⟨b, off, g, rc, cap, by rw [hl], by rw [hc, hS], by rw [← hS]; exact hle1, ?_, hset.1, ⟨hbg, hg1, hb⟩, _, hin, ?_, ?_, h4⟩
    · obtain ⟨g', go, e3, hcell⟩ := hrow.here (by omega)
      cases e3
      have := hcell s (by omega)
      rw [Nat.zero_add] at this
      rw [this, hx]
      congr 2
      exact plRow_at hs
    · rw [rwx_set, h2]
      dsimp only
      rw [hx]
      apply List.ext_getElem (by simp [plRows])
      intro i h5 h6
      have hi : i < R := by simpa [plRows] using h6
      rw [List.getElem_set]
      simp only [plRows, List.getElem_map, List.getElem_range]
      by_cases e4 : r = i
      · subst e4
        rw [if_pos rfl]
        unfold plRow
        apply List.ext_getElem (by simp)
        intro j h7 h8
        rw [List.getElem_set]
        simp only [List.getElem_map, List.getElem_range, setTab]
        by_cases e5 : s = j
        · subst e5; simp
        · rw [if_neg e5, if_neg (fun h => e5 h.1.symm)]
      · rw [if_neg e4]
        refine List.map_congr_left fun j _ => ?_
        unfold setTab
        rw [if_neg (fun h => e4 h.2.symm)]
    · intro c hc2 k hk
      rcases List.mem_or_eq_of_mem_set hc2 with hc2 | rfl
      · exact h3 c hc2 k hk
      · unfold Rw.v at hk; cases hk; exact hb
end
structure FsAt (w W : World) (ao : Option Addr) (R S : Nat) (U : Tab) (x : Dm) (b : Bk) : Prop where
  d : DmBk 38 W w.heap.size x
  bk : BkBk 31 W (w.heap.size + 1) b
  tb : RdTab W ao R S U
  below : Below w.heap.size w W
theorem FsAt.start {w : World} {ao : Option Addr} {R S : Nat} {U : Tab} (h : RdTab w ao R S U) (x : Dm) (b : Bk) : FsAt w ((w.alloc (.cells #[.int .i64 x.node, .int .i64 x.every, .int .i64 x.size] 38)).alloc (.cells #[.int .i64 b.slot, .int .i64 b.phase] 31)) ao R S U x b := by
  have b1 : Below w.heap.size w (w.alloc (.cells #[.int .i64 x.node, .int .i64 x.every, .int .i64 x.size] 38)) := (Below.refl _ _).alloc (Nat.le_refl _) _
  have b2 := (Below.refl (w.alloc (.cells #[.int .i64 x.node, .int .i64 x.every, .int .i64 x.size] 38)).heap.size (w.alloc (.cells #[.int .i64 x.node, .int .i64 x.every, .int .i64 x.size] 38))).alloc (Nat.le_refl _) (.cells #[.int .i64 b.slot, .int .i64 b.phase] 31)
  have h2 := BkBk.new (T := 31) (x := b) (w.alloc (.cells #[.int .i64 x.node, .int .i64 x.every, .int .i64 x.size] 38))
  rw [World.size_alloc] at h2
  exact ⟨(DmBk.new w).below b2 (by simp), h2, (h.below b1).below b2, below_two b1 b2⟩
theorem FsAt.still {w W W' : World} {ao : Option Addr} {R S : Nat} {U : Tab} {x : Dm} {b : Bk} (h : FsAt w W ao R S U x b) (hb : Below W.heap.size W W') : FsAt w W' ao R S U x b :=
  ⟨h.d.below hb h.d.lt, h.bk.below hb h.bk.lt, h.tb.below hb, below_two h.below hb⟩
set_option maxHeartbeats 4000000 in
set_option maxRecDepth 100000 in
set_option linter.unusedSimpArgs false in
/-- spec.l16Fits. -/
theorem l16Fits_any (ao : Option Addr) (cap R S : Nat) (U : Tab) (x : Dm) (b : Bk) (w : World) (h : RdTab w ao R S U) (hU : tabOk U) (hx : isPow x.every = true) (hR0 : 0 < R) (hR : R ≤ 8) (hS0 : 0 < S) (hS : S ≤ 16) :
    Calls Try.prog 83 #[.slice ao R cap, dmVal x, bkVal b] w fun e w' => e = .returned (.bool (plFits U R S x b)) ∧ Below w.heap.size w w' := by
  have HP := Lib.hid (FsAt.start h x b)
  obtain ⟨b0, o0, ra0, rc0, rfl, -, -⟩ := h.row hR0
  clear h
  have HU := Lib.hid hU; clear hU
  have hx2 := isPow_iff.1 hx
  clear hx
  obtain ⟨nd, ev, sz⟩ := x
  obtain ⟨sl, ph⟩ := b
  unfold dmVal bkVal
  dsimp only at hx2 ⊢
  have i1 := fun W => l01In_any sl 0 ((S : Int) - 1) W
  have i2 := fun W => l01In_any ph 0 (ev - 1) W
  by_cases hc : (R : Int) < ev
  · have HE := Lib.hid (plFits_no (T := U) (R := R) (S := S) (x := ⟨nd, ev, sz⟩) (b := ⟨sl, ph⟩) (.inl hc))
    clear hx2
    go_enter Try.func83, Try.ntmps83
    go_upto_region 2 with fail
    generalize ((w.alloc (.cells #[.int .i64 nd, .int .i64 ev, .int .i64 sz] 38)).alloc (.cells #[.int .i64 sl, .int .i64 ph] 31)) = w1 at HP ⊢
    have d1 := HP.out.d.all.2.1
    obtain ⟨k0, k1⟩ := HP.out.bk.all
    obtain ⟨b9, o9, ra0, rc0, e9, cr, -, -, -⟩ := HP.out.tb.row hR0
    cases e9
    rw [Nat.add_zero] at cr
    dsimp only at d1 k0 k1
    go_quiet (fail)
    go_wp2
    go_ret
    rw [HE.out]
    exact ⟨rfl, (HP.out.still (below_drewN' (Below.refl _ _) _)).below⟩
  have hn0 := hc; clear hc
  have hev : ¬ (R : Int) < ev := hn0
  rcases h1 : inRange 0 ((S : Int) - 1) sl with _ | _
  · have HE := Lib.hid (show plFits U R S ⟨nd, ev, sz⟩ ⟨sl, ph⟩ = false from by unfold plFits; simp [h1])
    rw [h1] at i1
    clear hx2
    go_enter Try.func83, Try.ntmps83
    go_upto_region 2 with fail
    generalize ((w.alloc (.cells #[.int .i64 nd, .int .i64 ev, .int .i64 sz] 38)).alloc (.cells #[.int .i64 sl, .int .i64 ph] 31)) = w1 at HP ⊢
    have d1 := HP.out.d.all.2.1
    obtain ⟨k0, k1⟩ := HP.out.bk.all
    obtain ⟨b9, o9, ra0, rc0, e9, cr, -, -, -⟩ := HP.out.tb.row hR0
    cases e9
    rw [Nat.add_zero] at cr
    dsimp only at d1 k0 k1
    go_quiet (first | (go_at_call_of 65 (Value.int IntKind.i64 sl); exact quiet_left (i1 _)) | (go_at_call_of 65 (Value.int IntKind.i64 ph); exact quiet_left (i2 _)))
    go_wp2
    go_ret
    rw [HE.out]
    exact ⟨rfl, (HP.out.still (below_drewN' (Below.refl _ _) _)).below⟩
  rcases h2 : inRange 0 (ev - 1) ph with _ | _
  · have HE := Lib.hid (show plFits U R S ⟨nd, ev, sz⟩ ⟨sl, ph⟩ = false from by unfold plFits; simp [h2])
    rw [h1] at i1
    rw [h2] at i2
    have hw : IntKind.i64.wrap (ev - 1) = ev - 1 := by rw [IntKind.wrap_i64]; omega
    clear hx2
    go_enter Try.func83, Try.ntmps83
    go_upto_region 2 with fail
    generalize ((w.alloc (.cells #[.int .i64 nd, .int .i64 ev, .int .i64 sz] 38)).alloc (.cells #[.int .i64 sl, .int .i64 ph] 31)) = w1 at HP ⊢
    have d1 := HP.out.d.all.2.1
    obtain ⟨k0, k1⟩ := HP.out.bk.all
    obtain ⟨b9, o9, ra0, rc0, e9, cr, -, -, -⟩ := HP.out.tb.row hR0
    cases e9
    rw [Nat.add_zero] at cr
    dsimp only at d1 k0 k1
    go_quiet (first | (go_at_call_of 65 (Value.int IntKind.i64 sl); exact quiet_left (i1 _)) | (go_at_call_of 65 (Value.int IntKind.i64 ph); exact quiet_left (i2 _)))
    go_wp2
    go_ret
    rw [HE.out]
    exact ⟨rfl, (HP.out.still (below_drewN' (Below.refl _ _) _)).below⟩
  have h1' := inRange_iff.1 h1
  have h2' := inRange_iff.1 h2
  rw [h1] at i1
  rw [h2] at i2
  clear h1 h2
  obtain ⟨s, rfl⟩ : ∃ s : Nat, sl = (s : Int) := ⟨sl.toNat, by omega⟩
  obtain ⟨q, rfl⟩ : ∃ q : Nat, ph = (q : Int) := ⟨ph.toNat, by omega⟩
  obtain ⟨e, rfl⟩ : ∃ e : Nat, ev = (e : Int) := ⟨ev.toNat, by omega⟩
  have he : 0 < e := by omega
  have hs : s < S := by omega
  have hq : q < e := by omega
  have heR : e ≤ R := by omega
  have HE := Lib.hid (show plFits U R S ⟨nd, (e : Int), sz⟩ ⟨(s : Int), (q : Int)⟩ = plFree U e q s R from by
    unfold plFits inRange
    have a1 : ((s : Int)) ≤ (S : Int) - 1 := by omega
    have a2 : ((q : Int)) ≤ (e : Int) - 1 := by omega
    have a3 : (e : Int) ≤ (R : Int) := by omega
    simp [a1, a2, a3])
  clear hx2 h1' h2'
  go_enter Try.func83, Try.ntmps83
  go_upto_region 2 with fail
  generalize ((w.alloc (.cells #[.int .i64 nd, .int .i64 (e : Int), .int .i64 sz] 38)).alloc (.cells #[.int .i64 (s : Int), .int .i64 (q : Int)] 31)) = w1 at HP ⊢
  have d1 := HP.out.d.all.2.1
  obtain ⟨k0, k1⟩ := HP.out.bk.all
  obtain ⟨b9, o9, ra0, rc0, e9, cr, -, -, -⟩ := HP.out.tb.row hR0
  cases e9
  rw [Nat.add_zero] at cr
  dsimp only at d1 k0 k1
  go_quiet (first | (go_at_call_of 65 (Value.int IntKind.i64 (s : Int)); exact quiet_left (i1 _)) | (go_at_call_of 65 (Value.int IntKind.i64 (q : Int)); exact quiet_left (i2 _)))
  go_wp2
  have HB1 := Lib.hid (show Below w1.heap.size w1 (w1.drewN nq) from below_drewN' (Below.refl _ _) _)
  clear d1 k0 k1 cr hn0 hev i1 i2
  go_loopw [8] (fun r wr => ∃ j : Nat, r = .int .i64 ((q + j * e : Nat) : Int) ∧ Hid (plFree U e q s (q + j * e) = true) ∧ Hid (Below w1.heap.size w1 wr)) (fun r _ => 8 - (intOf r).toNat)
  case atStart => exact ⟨0, by simp, by rw [Nat.zero_mul, Nat.add_zero]; exact plFree_start U e q s, HB1.out⟩
  case round =>
    clear HB1
    obtain ⟨j, rfl, HF, HB⟩ := hrel
    have HPr := Lib.hid (HP.out.still HB.out)
    obtain ⟨r, hr⟩ : ∃ r, r = q + j * e := ⟨_, rfl⟩
    have HNY := Lib.hid (fun hv => plFree_next (n := q + (j + 1) * e) HF.out hv (Nat.le_refl _))
    have HNO := Lib.hid (fun hv (hn : q + j * e < R) => plFree_not (T := U) (e := e) (p := q) (s := s) (j := j) (n := R) hv hn)
    have HJ := Lib.hid (show q + (j + 1) * e = r + e from by rw [Nat.succ_mul]; omega)
    have HLE := Lib.hid (fun hn => plFree_le (m := R) HF.out hn)
    rw [← hr] at HNO HLE HNY ⊢
    clear HF
    have d1 := HPr.out.d.all.2.1
    obtain ⟨k0, k1⟩ := HPr.out.bk.all
    dsimp only at d1 k0 k1
    by_cases hlt : r < R
    · obtain ⟨b9, o9, g, go, rc, e9, cr, hrc, cc⟩ := HPr.out.tb.cell hlt hs
      cases e9
      have hlt' : (r : Int) < (R : Int) := by omega
      have hsS' : (s : Int) < (S : Int) := by omega
      have hok := HU.out r s
      obtain ⟨v, hv⟩ : ∃ v, v = U r s := ⟨_, rfl⟩
      rw [← hv] at cc hok
      by_cases hc : v = -1
      · have hne : ¬ (0 : Int) ≤ v := by omega
        have HD := Lib.hid (HNY.out (by rw [← hv]; exact hc))
        have HBE := Lib.hid (fun n => below_two HB.out (below_drewN' (Below.refl wr.heap.size wr) n))
        clear hr hc hv hok
        go_wp2
        go_quiet (fail)
        go_wp2
        go_roundw
        case rel => exact ⟨j + 1, by rw [HJ.out]; go_num, HD, HBE.out _⟩
        case measure => simp [intOf]; omega
      · have hne : (0 : Int) ≤ v := by omega
        have HD := Lib.hid (HNO.out (by rw [← hv]; exact hc) hlt)
        have HBE := Lib.hid (fun n => (HPr.out.still (below_drewN' (Below.refl wr.heap.size wr) n)).below)
        clear hr hc hv hok
        go_wp2
        go_quiet (fail)
        go_wp2
        go_ret
        rw [HE.out, HD.out]
        exact ⟨rfl, HBE.out _⟩
    · have hge : ¬ (r : Int) < (R : Int) := by omega
      have HD := Lib.hid (HLE.out (by omega))
      clear hr
      go_wp2
      go_ret
      rw [HE.out, HD.out]
      exact ⟨rfl, HPr.out.below⟩
end Go.Proofs.Ytbbodgeoenjdkaa
