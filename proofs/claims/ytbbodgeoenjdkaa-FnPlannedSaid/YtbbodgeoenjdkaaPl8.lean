/-
  Chapter 16: a planner made for a list and a frame of rounds, by the program.
-/
import Derived.Test.YtbbodgeoenjdkaaPl7
namespace Go.Proofs.Ytbbodgeoenjdkaa
open Go.RowKit Go.Maps

/-- The table while it is filled. -/
def fillT (r s : Nat) : Tab := fun r' s' => if r' < r ∨ (r' = r ∧ s' < s) then -1 else 0
theorem fillT_zero : fillT 0 0 = fun _ _ => 0 := by
  funext r s; unfold fillT; rw [if_neg (by omega)]
theorem fillT_next (r s : Nat) : setTab (fillT r s) r s (-1) = fillT r (s + 1) := by
  funext r' s'
  unfold setTab fillT
  by_cases h : s' = s ∧ r' = r
  · rw [if_pos h, if_pos (by omega)]
  · rw [if_neg h]
    by_cases h2 : r' < r ∨ (r' = r ∧ s' < s)
    · rw [if_pos h2, if_pos (by omega)]
    · rw [if_neg h2, if_neg (by omega)]
theorem fillT_row (r : Nat) : sameTab (fillT r 16) (fillT (r + 1) 0) 8 16 := by
  intro r' s' h1 h2
  unfold fillT
  by_cases h : r' < r + 1
  · rw [if_pos (by omega), if_pos (by omega)]
  · rw [if_neg (by omega), if_neg (by omega)]
theorem fillT_all : sameTab (fillT 8 0) tab0 8 16 := by
  intro r' s' h1 h2
  unfold fillT tab0
  rw [if_pos (by omega)]
theorem waitF_end (t : List Dm) : waitF t t.length = fun _ => none := by
  funext z; unfold waitF; rw [if_neg (by omega)]
/-- A planner whose first k demands are put in. -/
structure PlPut (w : World) (p mb : Nat) (R S : Nat) (t : List Dm) (k : Nat) : Prop where
  blk : w.heap[p]? = some (.cells (plCells R S tab0 mb) 87 (0, 0))
  map : FunMap Try.prog 2 w mb k (putF t k)
  ne : p ≠ mb
theorem PlPut.cm {w : World} {p mb R S k : Nat} {t : List Dm} (h : PlPut w p mb R S t k) : w.cell? ⟨p, 130, none⟩ = some (.map (some mb)) := (cell_of_row w p 130 _ _ (0, 0) h.blk).trans (plCells_map ..)
theorem PlPut.lt {w : World} {p mb R S k : Nat} {t : List Dm} (h : PlPut w p mb R S t k) : p < w.heap.size := (Array.getElem?_eq_some_iff.1 h.blk).1
theorem PlPut.still {w w' : World} {p mb R S k : Nat} {t : List Dm} (h : PlPut w p mb R S t k) (hb : Below w.heap.size w w') : PlPut w' p mb R S t k :=
  ⟨(hb.block p h.lt).trans h.blk, h.map.below hb, h.ne⟩
theorem PlPut.next {w w' : World} {p mb R S k : Nat} {t : List Dm} (h : PlPut w p mb R S t k) (hm : FunMap Try.prog 2 w' mb (k + 1) (fun z => if z = (k : Int) then some (dmVal (dmOf t k)) else putF t k z)) (hg : w.grownBy w' (some mb)) : PlPut w' p mb R S t (k + 1) :=
  ⟨(hg.block p h.lt (fun e => by cases e; exact h.ne rfl)).trans h.blk, by rw [← putF_next]; exact hm, h.ne⟩
theorem PlPut.start {w : World} {p mb R S : Nat} {T : Tab} {t : List Dm} (h : PlAt w p mb R S T t t.length) (e : sameTab T tab0 8 16) : PlPut w p mb R S t 0 :=
  ⟨(h.same e).blk, by have hm := h.map; rw [Nat.sub_self, waitF_end] at hm; rw [putF_zero]; exact hm, h.ne⟩
theorem PlPut.done {w : World} {p mb R S : Nat} {t : List Dm} (h : PlPut w p mb R S t t.length) : PlAt w p mb R S tab0 t 0 :=
  ⟨h.blk, by have hm := h.map; rw [putF_all] at hm; exact hm, h.ne⟩
theorem planCode_one {t : List Dm} {R S : Int} (h : areDms t = false) : planCode t R S = 1 := by simp [planCode, h]
theorem planCode_two {t : List Dm} {R S : Int} (h : areDms t = true) (h2 : plFrame R S = false) : planCode t R S = 2 := by simp [planCode, h, h2]
theorem planCode_ok {t : List Dm} {R S : Int} (h : areDms t = true) (h2 : plFrame R S = true) : planCode t R S = 0 := by simp [planCode, h, h2]
theorem plZero (R S : Int) (mb : Nat) : (((Try.zeroCells87.setIfInBounds 0 (.int .i64 R)).setIfInBounds 1 (.int .i64 S)).setIfInBounds 130 (.map (some mb))) = plCells R S (fun _ _ => 0) mb := by kernel_rfl
/-- What plannerFor leaves. -/
def GotPl (w : World) (t : List Dm) (R S : Int) (e : Ending) (w' : World) : Prop :=
  (planCode t R S ≠ 0 ∧ e = .returned (.tuple #[.pointer none, .int .i64 (planCode t R S)]) ∧ Below w.heap.size w w')
  ∨ (planCode t R S = 0 ∧ ∃ p mb, e = .returned (.tuple #[.pointer (some ⟨p, 0, none⟩), .int .i64 0]) ∧ w.heap.size ≤ p ∧ w.heap.size ≤ mb ∧ PlAt w' p mb R.toNat S.toNat tab0 t 0 ∧ Below w.heap.size w w')
set_option maxHeartbeats 4000000 in
set_option maxRecDepth 100000 in
set_option linter.unusedSimpArgs false in
theorem plannerFor_any (ao : Option Addr) (n cap : Nat) (t : List Dm) (R S : Int) (w : World) (hr : RdDm w ao n t) (hn : n ≤ 9223372036854775807) :
    Calls Try.prog 50 #[.slice ao n cap, .int .i64 R, .int .i64 S] w (GotPl w t R S) := by
  have HL := Lib.hid hr.len
  have HR := Lib.hid hr
  have i1 := areDmsI_any ao n cap t w hr hn
  have i2 := fun W => isPeriod_any R W
  clear hr
  cases h1 : areDms t
  · rw [h1] at i1
    have HC := Lib.hid (planCode_one (R := R) (S := S) h1)
    go_enter Try.func50, Try.ntmps50
    go_wp2_with (go_at_call 25; refine i1.mono ?_; rintro e w1 ⟨rfl, b1⟩)
    go_ret2
    exact .inl ⟨by rw [HC.out]; decide, by rw [HC.out]; rfl, b1⟩
  rw [h1] at i1
  have HA := Lib.hid h1
  have h40 := areDms_len h1
  rw [HL.out] at h40
  clear h1
  cases h2 : isPow R
  · rw [h2] at i2
    have HC := Lib.hid (planCode_two (R := R) (S := S) HA.out (by simp [plFrame, h2]))
    go_enter Try.func50, Try.ntmps50
    go_wp2_with (first | (go_at_call 25; refine i1.mono ?_; rintro e w1 ⟨rfl, b1⟩) | (go_at_call 74; refine (i2 _).mono ?_; rintro e w2 ⟨rfl, rfl⟩))
    go_ret2
    exact .inl ⟨by rw [HC.out]; decide, by rw [HC.out]; rfl, b1⟩
  rw [h2] at i2
  have hR2 := isPow_iff.1 h2
  have HP2 := Lib.hid h2; clear h2
  by_cases h3 : S < 1
  · have HC := Lib.hid (planCode_two (R := R) (S := S) HA.out (by simp [plFrame, inRange]; omega))
    go_enter Try.func50, Try.ntmps50
    go_wp2_with (first | (go_at_call 25; refine i1.mono ?_; rintro e w1 ⟨rfl, b1⟩) | (go_at_call 74; refine (i2 _).mono ?_; rintro e w2 ⟨rfl, rfl⟩))
    go_ret2
    exact .inl ⟨by rw [HC.out]; decide, by rw [HC.out]; rfl, b1⟩
  by_cases h4 : 16 < S
  · have HC := Lib.hid (planCode_two (R := R) (S := S) HA.out (by simp [plFrame, inRange]; omega))
    go_enter Try.func50, Try.ntmps50
    go_wp2_with (first | (go_at_call 25; refine i1.mono ?_; rintro e w1 ⟨rfl, b1⟩) | (go_at_call 74; refine (i2 _).mono ?_; rintro e w2 ⟨rfl, rfl⟩))
    go_ret2
    exact .inl ⟨by rw [HC.out]; decide, by rw [HC.out]; rfl, b1⟩
  have HC := Lib.hid (planCode_ok (R := R) (S := S) HA.out (by simp [plFrame, inRange, HP2.out]; omega))
  obtain ⟨r, rfl⟩ : ∃ r : Nat, R = (r : Int) := ⟨R.toNat, by omega⟩
  obtain ⟨s, rfl⟩ : ∃ s : Nat, S = (s : Int) := ⟨S.toNat, by omega⟩
  go_enter Try.func50, Try.ntmps50
  go_upto_region 5 with (first | (go_at_call 25; refine i1.mono ?_; rintro e w1 ⟨rfl, b1⟩) | (go_at_call 74; refine (i2 _).mono ?_; rintro e w2 ⟨rfl, rfl⟩))
  clear i1 i2 hR2
  have hmm : ∀ W, (Instr.makeMap 85 none).run Try.prog W = .ok (.map (some W.heap.size)) (W.alloc (.map #[] 0)) := fun W => run_makeMap_lit W
  have hce := plZero (r : Int) (s : Int) w1.heap.size
  have HB1 := Lib.hid b1; clear b1
  have hbx := ((Below.refl w1.heap.size w1).alloc (Nat.le_refl _) (.map #[] 0)).alloc (by simp) (.cells (plCells (r : Int) (s : Int) (fun _ _ => 0) w1.heap.size) 87)
  have HPL := Lib.hid (show PlAt ((w1.alloc (.map #[] 0)).alloc (.cells (plCells (r : Int) (s : Int) (fun _ _ => 0) w1.heap.size) 87)) (w1.heap.size + 1) w1.heap.size r s (fillT 0 0) t t.length from by
    refine ⟨?_, ?_, by omega⟩
    · have h := heap_alloc_new (w1.alloc (.map #[] 0)) (.cells (plCells (r : Int) (s : Int) (fun _ _ => 0) w1.heap.size) 87)
      rw [World.size_alloc] at h
      rw [fillT_zero]; exact h
    · rw [Nat.sub_self, waitF_end]
      exact (funMap_made w1).below ((Below.refl _ _).alloc (Nat.le_refl _) _))
  have HBX := Lib.hid (below_two HB1.out hbx); clear hbx
  have hsz := HB1.out.size
  go_upto_region 6 with fail
  try rw [hce]
  clear hmm hce
  generalize (w1.alloc (.map #[] 0)).alloc (.cells (plCells (r : Int) (s : Int) (fun _ _ => 0) w1.heap.size) 87) = w3 at HPL HBX ⊢
  generalize w1.heap.size = mb at HPL hsz ⊢
  go_wp2
  go_loopw [34] (fun i wr => ∃ a : Nat, i = .int .i64 (a : Int) ∧ a ≤ 8 ∧ Hid (PlAt wr (mb + 1) mb r s (fillT a 0) t t.length) ∧ Hid (Below w.heap.size w wr)) (fun i _ => 8 - (intOf i).toNat)
  case atStart => exact ⟨0, rfl, by omega, HPL.out, HBX.out⟩
  case round =>
    clear HPL HBX HB1
    obtain ⟨a, rfl, ha, HPL, HB⟩ := hrel
    by_cases hlt : a < 8
    · have hlt' : (a : Int) < 8 := by omega
      go_wp2
      go_loopw [37] (fun i wr => ∃ c : Nat, i = .int .i64 (c : Int) ∧ c ≤ 16 ∧ Hid (PlAt wr (mb + 1) mb r s (fillT a c) t t.length) ∧ Hid (Below w.heap.size w wr)) (fun i _ => 16 - (intOf i).toNat)
      case atStart => exact ⟨0, rfl, by omega, HPL.out, HB.out⟩
      case round =>
        clear HPL HB
        obtain ⟨c, rfl, hc, HPL, HB⟩ := hrel
        by_cases hct : c < 16
        · have hct' : (c : Int) < 16 := by omega
          have hp := HPL.out.set (r := a) (s := c) (-1) hlt hct
          rw [fillT_next] at hp
          have HP2 := Lib.hid hp
          have HB2 := Lib.hid (show Below w.heap.size w (wr.setCell ⟨mb + 1, 2 + a * 16 + c, none⟩ (.int .i64 (-1))) from HB.out.setCell (by show w.heap.size ≤ mb + 1; omega) _)
          have c0 := HPL.out.ct hlt hct
          have hf := HPL.out.f
          clear hp
          go_wp2
          go_roundw
          case rel => exact ⟨c + 1, by go_num, by omega, HP2.out, HB2.out⟩
          case measure => simp [intOf]; omega
        · have hcn : c = 16 := by omega
          subst hcn
          have HP2 := Lib.hid (HPL.out.same (fillT_row a))
          go_wp2
          go_roundw
          case rel => exact ⟨a + 1, by go_num, by omega, HP2.out, HB.out⟩
          case measure => simp [intOf]; omega
    · have han : a = 8 := by omega
      subst han
      have HPP := Lib.hid (PlPut.start HPL.out fillT_all)
      clear hlt ha HPL
      go_wp2
      go_loopw [51] (fun i wr => ∃ k : Nat, i = .int .i64 (k : Int) ∧ k ≤ n ∧ Hid (PlPut wr (mb + 1) mb r s t k) ∧ Hid (Below w.heap.size w wr)) (fun i _ => n - (intOf i).toNat)
      case atStart => exact ⟨0, rfl, by omega, HPP.out, HB.out⟩
      case round =>
        clear HPP HB
        obtain ⟨k, rfl, hk, HPP, HB⟩ := hrel
        by_cases hkt : k < n
        · obtain ⟨g, off, rfl, hg, hx⟩ := HR.out.at hkt
          replace hx := hx.below HB.out hg
          have HNX := Lib.hid (fun W W' (h : PlPut W (mb + 1) mb r s t k) => PlPut.next (w := W) (w' := W') h)
          have HPO := Lib.hid (putF_out t k)
          generalize dmOf t k = x at hx HNX
          have hb3 : Below wr.heap.size wr (wr.alloc (.cells #[.int .i64 x.node, .int .i64 x.every, .int .i64 x.size] 38)) := (Below.refl _ _).alloc (Nat.le_refl _) _
          have HDM := Lib.hid (DmBk.new (T := 38) (x := x) wr)
          have HP3 := Lib.hid (HPP.out.still hb3)
          have HB3 := Lib.hid (below_two HB.out hb3)
          have hgs := HPP.out.map.lt
          have hws := HB.out.size
          obtain ⟨h0, h1, h2⟩ := hx
          clear hb3 hg
          go_upto_region 18 with fail
          clear h0 h1 h2
          generalize hgw : wr.heap.size = gd at HDM hgs hws ⊢
          generalize wr.alloc (.cells #[.int .i64 x.node, .int .i64 x.every, .int .i64 x.size] 38) = w4 at HDM HP3 HB3 ⊢
          have HD4 := Lib.hid (show Below w4.heap.size w4 w4.drew from Below.drew (Below.refl _ _))
          have HDM4 := Lib.hid (HDM.out.below HD4.out HDM.out.lt)
          have HP4 := Lib.hid (HP3.out.still HD4.out)
          have HB4 := Lib.hid (below_two HB3.out HD4.out)
          have HE4 := Lib.hid HDM4.out.all
          refine wp_region_held_drew (S := fun w' => (w'.cell? ⟨mb + 1, 130, none⟩ = some (Value.map (some mb))) ∧ (w'.cell? ⟨gd, 0, none⟩ = some (Value.int .i64 x.node) ∧ w'.cell? ⟨gd, 1, none⟩ = some (Value.int .i64 x.every) ∧ w'.cell? ⟨gd, 2, none⟩ = some (Value.int .i64 x.size))) (by kernel_rfl) (⟨HP4.out.cm, HE4.out⟩) (fun hHeld => ?_)
          generalize w4.drew = w5 at HD4 HDM4 HP4 HB4 HE4 hHeld ⊢
          refine wpAnyH_take (i := 0) (v := ?_) rfl (by kernel_rfl) (by kernel_rfl) (by kernel_rfl) (fun _ _ _ h => h) (Or.inl ⟨by rfl, ?_⟩) (by assumption) ?_
          rotate_left
          · (intro w hSw; (try dsimp only at hSw); go_simp; (try with_reducible rfl))
          try simp only [List.getElem_toArray, List.getElem_cons_succ, List.getElem_cons_zero, Act.put, List.setIfInBounds_toArray, List.set_cons_zero, List.set_cons_succ]
          refine wpAnyH_take (i := 1) (v := ?_) rfl (by kernel_rfl) (by kernel_rfl) (by kernel_rfl) (fun _ _ _ h => h) (Or.inl ⟨by rfl, ?_⟩) (by assumption) ?_
          rotate_left
          · (intro w hSw; (try dsimp only at hSw); go_simp; (try with_reducible rfl))
          try simp only [List.getElem_toArray, List.getElem_cons_succ, List.getElem_cons_zero, Act.put, List.setIfInBounds_toArray, List.set_cons_zero, List.set_cons_succ]
          refine wpAnyH_take (i := 2) (v := ?_) rfl (by kernel_rfl) (by kernel_rfl) (by kernel_rfl) (fun _ _ _ h => h) (Or.inl ⟨by rfl, ?_⟩) (by assumption) ?_
          rotate_left
          · (intro w hSw; (try dsimp only at hSw); go_simp; (try with_reducible rfl))
          try simp only [List.getElem_toArray, List.getElem_cons_succ, List.getElem_cons_zero, Act.put, List.setIfInBounds_toArray, List.set_cons_zero, List.set_cons_succ]
          refine wpAnyH_take (i := 3) (v := ?_) rfl (by kernel_rfl) (by kernel_rfl) (by kernel_rfl) (fun _ _ _ h => h) (Or.inl ⟨by rfl, ?_⟩) (by assumption) ?_
          rotate_left
          · (intro w hSw; (try dsimp only at hSw); go_simp; (try with_reducible rfl))
          try simp only [List.getElem_toArray, List.getElem_cons_succ, List.getElem_cons_zero, Act.put, List.setIfInBounds_toArray, List.set_cons_zero, List.set_cons_succ]
          refine wpAnyH_take (i := 4) (v := ?_) rfl (by kernel_rfl) (by kernel_rfl) (by kernel_rfl) (fun _ _ _ h => h) (Or.inl ⟨by rfl, ?_⟩) (by assumption) ?_
          rotate_left
          · (intro w hSw; (try dsimp only at hSw); go_simp; (try with_reducible rfl))
          try simp only [List.getElem_toArray, List.getElem_cons_succ, List.getElem_cons_zero, Act.put, List.setIfInBounds_toArray, List.set_cons_zero, List.set_cons_succ]
          refine wpAnyH_take (i := 5) (v := ?_) rfl (by kernel_rfl) (by kernel_rfl) (by kernel_rfl) (fun _ _ _ h => h) (Or.inl ⟨by rfl, ?_⟩) (by assumption) ?_
          rotate_left
          · (intro w hSw; (try dsimp only at hSw); go_simp; (try with_reducible rfl))
          try simp only [List.getElem_toArray, List.getElem_cons_succ, List.getElem_cons_zero, Act.put, List.setIfInBounds_toArray, List.set_cons_zero, List.set_cons_succ]
          refine wpAnyH_ready (rs := [6]) (by kernel_rfl) (by simp) (AllReadyH.cons rfl (fun K hK => ?_) AllReadyH.nil)
          refine updD _ _ _ _ rfl und_i64 Try.underlying85 _ _ _ rfl HP4.out.map (by omega) _ (dmVal x) rfl rfl ⟨by omega, by omega⟩ HPO.out ?_
          intro w6 m6 g6
          have HP6 := Lib.hid (HNX.out w5 w6 HP4.out m6 g6)
          have HE6 := Lib.hid ((HDM4.out.grown g6 (by intro h; cases h; omega)).all)
          have HB6 := Lib.hid (HB4.out.grown g6 HB4.out.size (fun k h => by cases h; omega))
          refine hK.out _ _ ?_ (fun hHeld => ?_)
          · exact ⟨HP6.out.cm, HE6.out⟩
          clear hK K
          try simp only [List.getElem_toArray, List.getElem_cons_succ, List.getElem_cons_zero, Act.put, List.setIfInBounds_toArray, List.set_cons_zero, List.set_cons_succ]
          refine wpAnyH_done (by kernel_rfl) ?_ _
          go_wp2
          go_roundw
          case rel => exact ⟨k + 1, by go_num, by omega, HP6.out, HB6.out⟩
          case measure => simp [intOf]; omega
        · have hkn : n = k := by omega
          have HPF := Lib.hid HPP.out
          rw [← hkn, ← HL.out] at HPF
          have HPF2 := Lib.hid HPF.out.done
          have hsz1 : w.heap.size ≤ mb + 1 := by omega
          clear hkn HPF
          go_wp2
          go_ret2
          exact .inr ⟨HC.out, mb + 1, mb, rfl, hsz1, hsz, HPF2.out, HB.out⟩
end Go.Proofs.Ytbbodgeoenjdkaa
