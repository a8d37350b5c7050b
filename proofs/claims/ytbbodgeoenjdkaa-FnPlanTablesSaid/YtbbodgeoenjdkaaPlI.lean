/-
  Chapter 16: the draws with bookings; a sum of small numbers.
-/
import Derived.Test.YtbbodgeoenjdkaaPlF
import Derived.Test.YtbbodgeoenjdkaaPlH
import Derived.Test.YtbbodgeoenjdkaaPlG
import Derived.Test.YtbbodgeoenjdkaaPlS6
import Derived.Test.YtbbodgeoenjdkaaDrawB
namespace Go.Proofs.Ytbbodgeoenjdkaa
open Go.RowKit

theorem sum_take_one (xs : List Int) (k : Nat) (h : k < xs.length) : (xs.take (k + 1)).sum = (xs.take k).sum + xs.getD k 0 := by
  rw [List.take_add_one, List.getElem?_eq_getElem h, List.sum_append, List.getD_eq_getElem?_getD, List.getElem?_eq_getElem h]
  simp
theorem getD_memS {xs : List Int} {k : Nat} (h : k < xs.length) : xs.getD k 0 ∈ xs := by
  rw [List.getD_eq_getElem?_getD, List.getElem?_eq_getElem h]
  exact List.getElem_mem h
/-- laws.sum of small numbers. -/
theorem sumSmall_any (ao : Option Addr) (n cap : Nat) (xs : List Int) (w : World) (hr : Rd w ao n xs) (hn : n ≤ 1048576) (hb : ∀ x ∈ xs, 0 ≤ x ∧ x ≤ 1000) :
    Calls Try.prog 28 #[.slice ao n cap] w fun e w' => e = .returned (.int .i64 xs.sum) ∧ w = w' := by
  obtain ⟨hlen, hat⟩ := hr
  have HL := Lib.hid hlen; clear hlen
  have HA := Lib.hid hat; clear hat
  have HZ := Lib.hid hb; clear hb
  go_enter Try.func28, Try.ntmps28
  go_wp2
  go_loop [3, 4] (fun v i => ∃ (k : Nat) (y : Int), k ≤ n ∧ i = .int .i64 k ∧ v = .int .i64 y ∧ 0 ≤ y ∧ y ≤ 1000 * k ∧ Hid ((xs.take k).sum = y)) (fun _ i => n - (intOf i).toNat)
  case atStart => exact ⟨0, 0, Nat.zero_le _, rfl, rfl, by omega, by omega, rfl⟩
  case round =>
    obtain ⟨k, y, hk, rfl, rfl, hy0, hy1, HY⟩ := hrel
    by_cases hlt : k < n
    · obtain ⟨b, off, rfl, hall⟩ := HA.out (by omega)
      have hck := hall k hlt
      clear hall
      have hkx : k < xs.length := by rw [HL.out]; exact hlt
      have hb0 := HZ.out (xs.getD k 0) (getD_memS hkx)
      have hfin : (xs.take (k + 1)).sum = y + xs.getD k 0 := by rw [sum_take_one xs k hkx, HY.out]
      obtain ⟨x, hx⟩ : ∃ x, x = xs.getD k 0 := ⟨_, rfl⟩
      rw [← hx] at hck hb0 hfin
      obtain ⟨hb0, hb1⟩ := hb0
      have HF := Lib.hid hfin; clear hfin hx hkx HY HZ HL HA
      go_wp2
      go_round
      case rel => exact ⟨k + 1, y + x, by omega, by go_num, rfl, by omega, by omega, HF⟩
      case measure => simp [intOf]; omega
    · have hkn : k = n := by omega
      subst hkn
      have hfin : y = xs.sum := by rw [← HY.out, List.take_of_length_le (by rw [HL.out]; exact Nat.le_refl _)]
      have HF := Lib.hid hfin; clear hfin
      go_wp2
      go_ret
      exact ⟨ret_int HF.out, rfl⟩

theorem planDemands_ok {t : List Dm} {R S : Int} (h : (planDemands t R S).2 = 0) : planCode t R S = 0 := by
  refine Classical.byContradiction fun hc => ?_
  rw [planDemands_bad hc] at h
  exact hc h
theorem results_four {fn : Func} {t u v x : Tmp} (h : fn.results = #[.tmp t, .tmp u, .tmp v, .tmp x]) (tmps : Array Value) (P : Program) (w : World) :
    (results fn tmps).run P w = .ok (.tuple #[tmps.getD t undef, tmps.getD u undef, tmps.getD v undef, tmps.getD x undef]) w := by
  simp [results, h]
/-- What a table says whose code is nought. -/
structure TabUse (t : List Dm) (R S : Int) (q : List (List Int)) : Prop where
  ok : OkPl t R S
  len : q.length = R.toNat
  rows : ∀ row ∈ q, row.length = S.toNat ∧ ∀ c ∈ row, -1 ≤ c ∧ c < (t.length : Int)
  count : ∀ j, j < t.length → (cntL t.length q.flatten).getD (j + 1) 0 = R.tdiv (dmOf t j).every
  sum : (cntL t.length q.flatten).sum = R * S
theorem table_use {t : List Dm} {R S : Int} {bs : List Bk} {q : List (List Int)} (h : planTable t R S bs = (q, 0)) : TabUse t R S q := by
  have hc : planCode t R S = 0 := by
    refine Classical.byContradiction fun hc => ?_
    rw [planTable_bad hc] at h
    exact hc (congrArg Prod.snd h)
  have hk := okPl hc
  have hR := isPow_iff.1 hk.R
  have hS := hk.S0
  cases hl : plTab tab0 R.toNat S.toNat 0 t bs with
  | none => rw [planTable_none hc hl] at h; cases h
  | some U =>
    rw [planTable_some hc hl] at h
    cases h
    have hR' : isPow (R.toNat : Int) = true := by rw [show (R.toNat : Int) = R from by omega]; exact hk.R
    have hd : ∀ i (hi : i < t.length), isPow (t[i]).every = true := fun i hi => by
      have := demands_pow hk.dm i hi
      rwa [show dmOf t i = t[i] from by simp [dmOf, List.getD_eq_getElem?_getD, hi]] at this
    obtain ⟨h1, h2, h3⟩ := table_law hR' (fun x hx => by
      obtain ⟨i, hi, rfl⟩ := List.getElem_of_mem hx
      exact hd i hi) hl
    refine ⟨hk, plRows_len U R.toNat S.toNat, h1, fun j hj => ?_, ?_⟩
    · rw [h2 j hj, show dmOf t j = t[j] from by simp [dmOf, List.getD_eq_getElem?_getD, hj]]
      have he := isPow_iff.1 (hd j hj)
      rw [Int.tdiv_eq_ediv_of_nonneg (by omega)]
      rw [Int.natCast_ediv, Int.toNat_of_nonneg (by omega), Int.toNat_of_nonneg (by omega)]
    · rw [h3, Int.natCast_mul, Int.toNat_of_nonneg (by omega), Int.toNat_of_nonneg (by omega)]
/-- Drawn demands, rounds, slots and bookings. -/
def DrawnP (w : World) (e : Ending) (w' : World) : Prop := ∃ v t R S bo m c2 bs, e = .returned (.tuple #[v, .int .i64 R, .int .i64 S, .slice bo m c2]) ∧ OwnDm 38 w' w.heap.size v t ∧ t.length ≤ 41 ∧ RdBk w' bo m bs ∧ m ≤ c2 ∧ c2 ≤ 9223372036854775807 ∧ Below w.heap.size w w'
theorem run_build_b0 (w : World) : (Instr.build 31 #[]).run Try.prog w = .ok (.agg #[.int .i64 0, .int .i64 0]) w := by kernel_rfl
theorem run_build_b1 (w : World) : (Instr.build 31 #[(0, .int .i64 1)]).run Try.prog w = .ok (.agg #[.int .i64 1, .int .i64 0]) w := by kernel_rfl
theorem grown_setPl (w : World) (g j : Nat) (v : Value) : w.grownBy (w.setCell ⟨g, j, none⟩ v) (some g) := ⟨rfl, rfl, rfl, by simp [World.setCell], fun k _ hne => heap_setCell_other _ _ _ _ (fun e => hne (by rw [e]))⟩
theorem OwnDm.beside {E base j g B : Nat} {w : World} {v u : Value} {t : List Dm} (h : OwnDm E w base v t) (hb : ∀ k, v.ownBlock = some k → k < B) (hg : B ≤ g) : OwnDm E (w.setCell ⟨g, j, none⟩ u) base v t := by
  refine h.only (grown_setPl _ _ _ _) ?_
  cases hk : v.ownBlock with
  | none => exact .inl rfl
  | some k => exact .inr (fun e => by cases e; have := hb _ hk; omega)
theorem OwnBk.rdL {E base n cap : Nat} {w : World} {ao : Option Addr} {t : List Bk} (h : OwnBk E w base (.slice ao n cap) t) (hl : t.length = n) : RdBk w ao n t := by
  obtain ⟨ao', cap', e, r, -⟩ := h.form
  injection e with e1 e2 e3
  subst e1
  rw [hl] at r
  exact r
theorem rdBk_lit {E : Nat} (w : World) : RdBk (w.alloc (.cells #[.int .i64 0, .int .i64 0, .int .i64 1, .int .i64 0] E)) (some ⟨w.heap.size, 0, none⟩) 2 [⟨0, 0⟩, ⟨1, 0⟩] := by
  have h : (w.alloc (.cells #[.int .i64 0, .int .i64 0, .int .i64 1, .int .i64 0] E)).heap[w.heap.size]? = some (.cells #[.int .i64 0, .int .i64 0, .int .i64 1, .int .i64 0] E (0, 0)) := heap_alloc_new w _
  refine ⟨rfl, fun _ => ⟨_, _, rfl, fun i hi => ?_⟩⟩
  obtain rfl | rfl : i = 0 ∨ i = 1 := by omega
  · exact ⟨cell_of_row _ _ 0 _ _ (0, 0) h, cell_of_row _ _ 1 _ _ (0, 0) h⟩
  · exact ⟨cell_of_row _ _ 2 _ _ (0, 0) h, cell_of_row _ _ 3 _ _ (0, 0) h⟩
theorem RdBk.tail {w : World} {g n : Nat} {t : List Bk} (h : RdBk w (some ⟨g, 0, none⟩) n t) : RdBk w (some ⟨g, 2, none⟩) (n - 1) (t.drop 1) := by
  refine ⟨by rw [List.length_drop, h.len], fun hn => ⟨g, 2, rfl, fun i hi => ?_⟩⟩
  obtain ⟨b, off, e, hat⟩ := h.here (by omega)
  cases e
  have := hat (i + 1) (by omega)
  rw [show bkOf (t.drop 1) i = bkOf t (i + 1) from by simp [bkOf, List.getD_eq_getElem?_getD]]
  rw [show 2 + i * 2 = 0 + (i + 1) * 2 from by omega]
  exact this
theorem RdBk.none_ {w : World} {bo : Option Addr} {n : Nat} {t : List Bk} (h : RdBk w bo n t) (hn : n = 1) (bo' : Option Addr) : RdBk w bo' (n - 1) (t.drop 1) := by
  subst hn
  refine ⟨by rw [List.length_drop, h.len], fun hn => absurd hn (by omega)⟩
set_option maxHeartbeats 4000000 in
set_option maxRecDepth 100000 in
theorem drawArePossible_any (ao : Option Addr) (n cap : Nat) (cs : List Int) (w : World) (hr : RdB w w.heap.size ao n cs) (hn : n ≤ 1048576) :
    Calls Try.prog 59 #[.slice ao n cap] w (DrawnP w) := by
  have HR := Lib.hid hr; clear hr
  go_enter Try.func59, Try.ntmps59
  go_wp2_with fail
  refine (from_any _ _ _ cs _ HR.out hn).mono ?_
  rintro e w1 ⟨p, rfl, hlo, hs1, hb1⟩
  have hp1 : p < w1.heap.size := hs1.lt
  have HR1 := Lib.hid (rdB_later HR.out hb1)
  have HS1 := Lib.hid hs1; have HB1 := Lib.hid hb1; clear hs1 hb1 HR
  go_wp2_with fail
  refine (drawPlanDemands_any _ _ _ cs _ HR1.out hn).mono ?_
  rintro e w2 ⟨v, t, R, S, rfl, oT, hl, b2⟩
  obtain ⟨pT, cT, rfl, oT, rT⟩ := oT.get
  have HW2 := Lib.hid (Nat.le_trans HB1.out.size b2.size)
  have HW1 := Lib.hid HB1.out.size
  have HTB := Lib.hid (fun k hk => (oT.block k hk).2)
  have HO2 := Lib.hid oT; have HT2 := Lib.hid rT; have HS2 := Lib.hid (HS1.out.below b2); have HB2 := Lib.hid (below_two HB1.out b2)
  have hp2 : p < w2.heap.size := Nat.lt_of_lt_of_le hp1 b2.size
  have HSZ := Lib.hid b2.size
  clear oT rT b2 HS1 HB1 HR1
  obtain ⟨l, c, hP⟩ : ∃ l c, planDemands t R S = (l, c) := ⟨_, _, rfl⟩
  have HC := Lib.hid (fun (h : c = 0) => okPl (planDemands_ok (show (planDemands t R S).2 = 0 by rw [hP]; exact h)))
  have hll : l.length ≤ 1048576 := by have := planDemands_small t R S; rw [hP] at this; exact this
  go_wp2_with fail
  refine (planDemandsS_any _ _ _ _ _ _ _ HT2.out (by omega)).mono ?_
  rintro e w3 m3
  rw [hP] at m3
  clear hP
  obtain ⟨p3, c3, rfl, o3, r3, b3⟩ := m3.get
  have hcap3 := o3.cap
  have HO3 := Lib.hid o3; have HR3 := Lib.hid r3
  have HT3 := Lib.hid (HO2.out.below b3); have HS3 := Lib.hid (HS2.out.below b3); have HB3 := Lib.hid (below_two HB2.out b3)
  clear o3 r3 b3 m3 HO2 HT2 HS2 HB2
  replace HO3 := Lib.hid (show OwnBk 31 w3 w2.heap.size (Value.slice p3 l.length c3) l from HO3.out)
  by_cases hc : c = 0
  rotate_left
  · have hne : (c != 0) = true := by simpa using hc
    clear hc
    have HRb := Lib.hid (rdBk_lit (E := 31) w3)
    have hbl : Below w3.heap.size w3 (w3.alloc (.cells #[.int .i64 0, .int .i64 0, .int .i64 1, .int .i64 0] 31)) := (Below.refl _ _).alloc (Nat.le_refl _) _
    have HTF := Lib.hid (HT3.out.below hbl); have HBF := Lib.hid (below_two HB3.out hbl)
    clear hbl HT3 HB3 HC HR3 HO3
    have hb0 := run_build_b0
    have hb1 := run_build_b1
    go_wp2
    refine bodyPost_ret (results_four rfl _ _ _) rfl ?_
    exact ⟨_, t, R, S, _, _, _, _, rfl, HTF.out.more HW1.out, hl, HRb.out, by omega, by omega, HBF.out⟩
  have HK := Lib.hid (HC.out hc)
  subst hc
  clear HC
  by_cases hl0 : l.length = 0
  · obtain rfl := List.length_eq_zero_iff.1 hl0
    clear hl0
    go_wp2
    refine bodyPost_ret (results_four rfl _ _ _) rfl ?_
    exact ⟨_, t, R, S, _, _, _, _, rfl, HT3.out.more HW1.out, hl, HR3.out, hcap3.1, hcap3.2, HB3.out⟩
  have hlp : 0 < l.length := by omega
  obtain ⟨g, rfl, hgl, hgh⟩ : ∃ g, p3 = some ⟨g, 0, none⟩ ∧ w2.heap.size ≤ g ∧ g < w3.heap.size := by
    obtain ⟨ao', cap', e, -, -, -, h⟩ := HO3.out.form
    rcases h with h | ⟨g, h1, h2, h3⟩
    · exfalso
      injection h with _ h2 _
      omega
    · cases e
      exact ⟨g, h1, h2, h3⟩
  have hS0 := HK.out.S0
  have hS1 := HK.out.S1
  clear hl0 HK
  go_wp2_with fail
  refine (next_any _ _ _ HS3.out (by omega)).mono ?_
  rintro e w4 ⟨k, rfl, hk0, hk1, hk2, hs4, g4⟩
  obtain ⟨k, rfl⟩ := Int.eq_ofNat_of_zero_le hk0
  have hkl : k < l.length := by
    by_cases h : 1 < (l.length : Int)
    · have := hk1 h; omega
    · have := hk2 (by omega); omega
  have HO4 := Lib.hid (HO3.out.old g4 hp2); have HT4 := Lib.hid (HT3.out.old g4 hp1); have HS4 := Lib.hid hs4
  have HB4 := Lib.hid (HB3.out.grown g4 HB3.out.size (fun k hk => by cases hk; exact hlo))
  clear hk0 hk1 hk2 hs4 g4 HO3 HT3 HS3 HB3 HR3
  go_wp2_with fail
  refine (next_any _ _ _ HS4.out (by omega)).mono ?_
  rintro e w5 ⟨y, rfl, -, -, -, hs5, g5⟩
  have HO5 := Lib.hid (HO4.out.old g5 hp2); have HT5 := Lib.hid (HT4.out.old g5 hp1); have HS5 := Lib.hid hs5
  have HB5 := Lib.hid (HB4.out.grown g5 HB4.out.size (fun k hk => by cases hk; exact hlo))
  clear hs5 g5 HO4 HT4 HS4 HB4
  by_cases h0 : y = 0
  · subst h0
    have hw : wrap64 (S + 1) = S + 1 := by unfold wrap64; omega
    go_wp2_with fail
    refine (next_any _ _ _ HS5.out (by omega)).mono ?_
    rintro e w5b ⟨a, rfl, -, -, -, hs5b, g5b⟩
    have HO5b := Lib.hid (HO5.out.old g5b hp2); have HT5b := Lib.hid (HT5.out.old g5b hp1); have HS5b := Lib.hid hs5b
    have HB5b := Lib.hid (HB5.out.grown g5b HB5.out.size (fun k hk => by cases hk; exact hlo))
    clear hs5b g5b HO5 HT5 HS5 HB5
    go_wp2_with fail
    refine (next_any _ _ _ HS5b.out (by omega)).mono ?_
    rintro e w6 ⟨b, rfl, hb0, hb1, -, hs6, g6⟩
    have HO6 := Lib.hid (HO5b.out.old g6 hp2); have HT6 := Lib.hid (HT5b.out.old g6 hp1); have HS6 := Lib.hid hs6
    have HB6 := Lib.hid (HB5b.out.grown g6 HB5b.out.size (fun k hk => by cases hk; exact hlo))
    clear hs6 g6 HO5b HT5b HS5b HB5b
    have hb2 : b < 8 := hb1 (by omega)
    clear hb1
    have hin := HO6.out.in_ rfl hkl
    generalize hxe : bkOf l k = x at hin
    obtain ⟨q0, q1⟩ := hin
    obtain ⟨f0, o7, b7⟩ := HO6.out.field (j := 0) (u := .int .i64 (wrap64 (a - b / 7))) (y := ⟨(wrap64 (a - b / 7)), x.phase⟩) rfl hkl (by omega) (by rw [hxe]; rfl)
    have r7 := o7.rdL (by rw [List.length_set])
    have HTF := Lib.hid (HT6.out.beside (j := k * 2 + 0) (u := .int .i64 (wrap64 (a - b / 7))) HTB.out hgl); have HBF := Lib.hid (HB6.out.trans (b7.mono HW2.out)); have HRF := Lib.hid r7
    clear o7 b7 r7 hxe HO6 HT6 HB6
    simp only [Nat.add_zero] at f0 q0 HTF HBF HRF
    go_wp2_with fail
    refine bodyPost_ret (results_four rfl _ _ _) rfl ?_
    exact ⟨_, t, R, S, _, _, _, _, rfl, HTF.out.more HW1.out, hl, HRF.out, hcap3.1, hcap3.2, HBF.out⟩
  have t0 : (y == 0) = false := by simp [h0]
  clear h0
  by_cases h1 : y = 1
  · subst h1
    go_wp2_with fail
    refine (next_any _ _ _ HS5.out (by omega)).mono ?_
    rintro e w6 ⟨a, rfl, -, -, -, hs6, g6⟩
    have HO6 := Lib.hid (HO5.out.old g6 hp2); have HT6 := Lib.hid (HT5.out.old g6 hp1); have HS6 := Lib.hid hs6
    have HB6 := Lib.hid (HB5.out.grown g6 HB5.out.size (fun k hk => by cases hk; exact hlo))
    clear hs6 g6 HO5 HT5 HS5 HB5
    have hin := HO6.out.in_ rfl hkl
    generalize hxe : bkOf l k = x at hin
    obtain ⟨q0, q1⟩ := hin
    obtain ⟨f0, o7, b7⟩ := HO6.out.field (j := 1) (u := .int .i64 a) (y := ⟨x.slot, a⟩) rfl hkl (by omega) (by rw [hxe]; rfl)
    have r7 := o7.rdL (by rw [List.length_set])
    have HTF := Lib.hid (HT6.out.beside (j := k * 2 + 1) (u := .int .i64 a) HTB.out hgl); have HBF := Lib.hid (HB6.out.trans (b7.mono HW2.out)); have HRF := Lib.hid r7
    clear o7 b7 r7 hxe HO6 HT6 HB6
    go_wp2_with fail
    refine bodyPost_ret (results_four rfl _ _ _) rfl ?_
    exact ⟨_, t, R, S, _, _, _, _, rfl, HTF.out.more HW1.out, hl, HRF.out, hcap3.1, hcap3.2, HBF.out⟩
  have t1 : (y == 1) = false := by simp [h1]
  clear h1
  by_cases h2 : y = 2
  · subst h2
    have r7 := HO5.out.rdL rfl
    have HTF := Lib.hid HT5.out; have HBF := Lib.hid HB5.out
    by_cases hc1 : c3 = 1
    · subst hc1
      clear r7 HO5 HT5 HB5
      go_wp2_with fail
      refine bodyPost_ret (results_four rfl _ _ _) rfl ?_
      exact ⟨_, t, R, S, _, _, _, _, rfl, HTF.out.more HW1.out, hl, RdBk.nil_, by omega, by omega, HBF.out⟩
    · have HRF := Lib.hid r7.tail
      clear r7 HO5 HT5 HB5
      go_wp2_with fail
      refine bodyPost_ret (results_four rfl _ _ _) rfl ?_
      exact ⟨_, t, R, S, _, _, _, _, rfl, HTF.out.more HW1.out, hl, HRF.out, by have := hcap3.1; omega, by have := hcap3.2; omega, HBF.out⟩
  have t2 : (y == 2) = false := by simp [h2]
  clear h2
  have r7 := HO5.out.rdL rfl
  have HTF := Lib.hid HT5.out; have HBF := Lib.hid HB5.out; have HRF := Lib.hid r7
  clear r7 HO5 HT5 HB5
  go_wp2_with fail
  refine bodyPost_ret (results_four rfl _ _ _) rfl ?_
  exact ⟨_, t, R, S, _, _, _, _, rfl, HTF.out.more HW1.out, hl, HRF.out, hcap3.1, hcap3.2, HBF.out⟩
set_option maxHeartbeats 1000000 in
theorem drawPlanTable_any (ao : Option Addr) (n cap : Nat) (cs : List Int) (w : World) (hr : RdB w w.heap.size ao n cs) (hn : n ≤ 1048576) :
    Calls Try.prog 21 #[.slice ao n cap] w (DrawnP w) := by
  have HR := Lib.hid hr; clear hr
  go_enter Try.func21, Try.ntmps21
  go_wp2_with fail
  refine (drawArePossible_any _ _ _ cs _ HR.out hn).mono ?_
  rintro e w1 ⟨v, t, R, S, bo, m, c2, bs, rfl, h1, h2, h3, h4, h5, h6⟩
  go_wp2
  refine bodyPost_ret (results_four rfl _ _ _) rfl ?_
  exact ⟨v, t, R, S, bo, m, c2, bs, rfl, h1, h2, h3, h4, h5, h6⟩
end Go.Proofs.Ytbbodgeoenjdkaa
