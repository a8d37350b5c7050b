/-
  Chapter 16: PlanDemands, ArePossible, SlotsNeeded, PlanTable of the program.
-/
import Derived.Test.YtbbodgeoenjdkaaPl8
import Derived.Test.YtbbodgeoenjdkaaTb
namespace Go.Proofs.Ytbbodgeoenjdkaa
open Go.RowKit Go.Maps

theorem demands_pow {t : List Dm} (h : areDms t = true) (i : Nat) (hi : i < t.length) : isPow (dmOf t i).every = true := (isDm_iff.1 (areDms_at h hi)).2.1
/-- What a code of nought says. -/
structure OkPl (t : List Dm) (R S : Int) : Prop where
  dm : areDms t = true
  R : isPow R = true
  S0 : 1 ≤ S
  S1 : S ≤ 16
theorem okPl {t : List Dm} {R S : Int} (h : planCode t R S = 0) : OkPl t R S := by
  unfold planCode at h
  split at h
  · cases h
  · split at h
    · cases h
    · rename_i h1 h2
      rw [Bool.not_eq_false] at h1 h2
      simp only [plFrame, inRange, Bool.and_eq_true, decide_eq_true_eq] at h2
      exact ⟨h1, h2.1, h2.2.1, h2.2.2⟩
theorem OkPl.R8 {t : List Dm} {R S : Int} (h : OkPl t R S) : R.toNat ≤ 8 := by have := isPow_iff.1 h.R; omega
theorem OkPl.S16 {t : List Dm} {R S : Int} (h : OkPl t R S) : S.toNat ≤ 16 := by have := h.S1; omega
theorem OkPl.len {t : List Dm} {R S : Int} (h : OkPl t R S) : t.length ≤ 1048576 := by have := areDms_len h.dm; omega
theorem planDemands_bad {t : List Dm} {R S : Int} (h : planCode t R S ≠ 0) : planDemands t R S = ([], planCode t R S) := by simp [planDemands, h]
theorem planDemands_some {t : List Dm} {R S : Int} {l : List Bk} (h : planCode t R S = 0) (hl : plPlan tab0 R.toNat S.toNat 0 t = some l) : planDemands t R S = (l, 0) := by simp [planDemands, h, hl]
theorem planDemands_none {t : List Dm} {R S : Int} (h : planCode t R S = 0) (hl : plPlan tab0 R.toNat S.toNat 0 t = none) : planDemands t R S = ([], 4) := by simp [planDemands, h, hl]
theorem planTable_bad {t : List Dm} {R S : Int} {bs : List Bk} (h : planCode t R S ≠ 0) : planTable t R S bs = ([], planCode t R S) := by simp [planTable, h]
theorem planTable_some {t : List Dm} {R S : Int} {bs : List Bk} {U : Tab} (h : planCode t R S = 0) (hl : plTab tab0 R.toNat S.toNat 0 t bs = some U) : planTable t R S bs = (plRows U R.toNat S.toNat, 0) := by simp [planTable, h, hl]
theorem planTable_none {t : List Dm} {R S : Int} {bs : List Bk} (h : planCode t R S = 0) (hl : plTab tab0 R.toNat S.toNat 0 t bs = none) : planTable t R S bs = ([], 5) := by simp [planTable, h, hl]
set_option maxHeartbeats 1000000 in
set_option maxRecDepth 100000 in
theorem planDemandsI_any (ao : Option Addr) (n cap : Nat) (t : List Dm) (R S : Int) (w : World) (hr : RdDm w ao n t) (hn : n ≤ 9223372036854775807) :
    Calls Try.prog 15 #[.slice ao n cap, .int .i64 R, .int .i64 S] w (MakesBk2 31 w (planDemands t R S).1 (planDemands t R S).2) := by
  have HG := Lib.hid (plannerFor_any ao n cap t R S w hr hn)
  clear hr
  go_enter Try.func15, Try.ntmps15
  go_wp2_with fail
  refine HG.out.mono ?_
  rintro e w1 (⟨hc, rfl, b1⟩ | ⟨hc, p, mb, rfl, hp, hm, pl, b1⟩)
  · have HE := Lib.hid (planDemands_bad hc)
    have hne : (planCode t R S != 0) = true := by simpa using hc
    generalize planCode t R S = c at hne HE hc
    clear hc
    go_wp2
    go_ret2
    exact ⟨.slice none 0 0, by rw [HE.out]; rfl, by rw [HE.out]; exact OwnBk.nil_, b1⟩
  · have HK := Lib.hid (okPl hc)
    have HP := Lib.hid (plan_any p mb R.toNat S.toNat tab0 t w1 pl HK.out.len (demands_pow HK.out.dm) HK.out.R8 HK.out.S16)
    have HC := Lib.hid hc
    have HB := Lib.hid b1
    clear hc pl b1
    go_wp2_with fail
    refine HP.out.mono ?_
    rintro e w2 (⟨l, v, hl, rfl, o2, k2⟩ | ⟨hl, rfl, k2⟩)
    · have HE2 := Lib.hid (planDemands_some HC.out hl)
      have HF := Lib.hid (o2.more HB.out.size)
      have HBF := Lib.hid (HB.out.trans (k2.below hp hm HB.out.size))
      clear hl o2 k2
      go_wp2
      go_ret2
      exact ⟨v, by rw [HE2.out]; rfl, by rw [HE2.out]; exact HF.out, HBF.out⟩
    · have HE2 := Lib.hid (planDemands_none HC.out hl)
      have HBF := Lib.hid (HB.out.trans (k2.below hp hm HB.out.size))
      clear hl k2
      go_wp2
      go_ret2
      exact ⟨.slice none 0 0, by rw [HE2.out]; rfl, by rw [HE2.out]; exact OwnBk.nil_, HBF.out⟩
theorem plPlan_slot {R S : Nat} : ∀ (t : List Dm) (T : Tab) (i : Nat) {l : List Bk}, plPlan T R S i t = some l → ∀ b ∈ l, 0 ≤ b.slot ∧ b.slot < S
  | [], _, _, l, h => by simp only [plPlan, Option.some.injEq] at h; subst h; intro b hb; cases hb
  | x :: r, T, i, l, h => by
    simp only [plPlan] at h
    obtain ⟨b, hb, h2⟩ := Option.bind_eq_some_iff.1 h
    obtain ⟨l', h3, rfl⟩ := Option.map_eq_some_iff.1 h2
    intro c hc
    rcases List.mem_cons.1 hc with rfl | hc
    · have := (plFits_phase (plFirst_fits hb)).2.1; omega
    · exact plPlan_slot r _ _ h3 c hc
theorem rd_apart {w : World} {ao : Option Addr} {n p mb : Nat} {bs : List Bk} (hr : RdBk w ao n bs) (hn : 0 < n) (hp : w.heap.size ≤ p) (hm : w.heap.size ≤ mb) : ∀ b off, ao = some ⟨b, off, none⟩ → b ≠ p ∧ b ≠ mb := by
  intro b off e
  obtain ⟨b', off', e', hlt, -⟩ := hr.at hn
  rw [e] at e'
  cases e'
  omega
theorem plTab_nil {T : Tab} {R S : Nat} {t : List Dm} (h : 0 < t.length) : plTab T R S 0 t [] = none := by
  cases t with
  | nil => simp at h
  | cons a r => rfl
theorem arePossible_some {t : List Dm} {R S : Int} {bs : List Bk} {U : Tab} (h : planCode t R S = 0) (hl : plTab tab0 R.toNat S.toNat 0 t bs = some U) : arePossible t R S bs = true := by simp [arePossible, planTable_some h hl]
theorem arePossible_none {t : List Dm} {R S : Int} {bs : List Bk} (h : planCode t R S = 0) (hl : plTab tab0 R.toNat S.toNat 0 t bs = none) : arePossible t R S bs = false := by simp [arePossible, planTable_none h hl]
theorem arePossible_bad {t : List Dm} {R S : Int} {bs : List Bk} (h : planCode t R S ≠ 0) : arePossible t R S bs = false := by simp [arePossible, planTable_bad h, h]
/-- giveAll where the bookings may lie anywhere in older memory, or nowhere. -/
theorem giveAllG_any (p mb R S : Nat) (t : List Dm) (ao : Option Addr) (n cap : Nat) (bs : List Bk) (w w1 : World) (h : PlAt w1 p mb R S tab0 t 0) (hr : RdBk w ao n bs) (hb : Below w.heap.size w w1) (hp : w.heap.size ≤ p) (hm : w.heap.size ≤ mb) (hn : t.length ≤ 1048576) (hd : ∀ i, i < t.length → isPow (dmOf t i).every = true) (hR : R ≤ 8) (hS : S ≤ 16) :
    Calls Try.prog 54 #[.pointer (some ⟨p, 0, none⟩), .slice ao n cap] w1 fun e w' =>
      (∃ U, plTab tab0 R S 0 t bs = some U ∧ e = .returned (.bool true) ∧ PlAt w' p mb R S U t t.length ∧ Kp w1 w' p mb)
      ∨ (plTab tab0 R S 0 t bs = none ∧ e = .returned (.bool false) ∧ Kp w1 w' p mb) := by
  by_cases h0 : 0 < n
  · exact giveAll_any p mb R S tab0 t ao n cap bs w1 h (hr.below hb) (rd_apart hr h0 hp hm) hn hd hR hS
  · obtain rfl : n = 0 := by omega
    have hbl : bs = [] := List.length_eq_zero_iff.1 hr.len
    subst hbl
    have H0 := Lib.hid h; clear h
    have cm := H0.out.cm
    have HM := Lib.hid H0.out.map
    rw [Nat.sub_zero] at HM
    by_cases ht : t.length = 0
    · obtain rfl : t = [] := List.length_eq_zero_iff.1 ht
      go_enter Try.func54, Try.ntmps54
      go_wp2
      refine wp_loop_rounds 1 ?_
      rw [rounds_succ]
      go_wp2_with (at_len; refine lenF _ rfl _ rfl Try.underlying85 _ _ _ rfl HM.out ?_)
      go_ret
      exact .inl ⟨tab0, rfl, rfl, H0.out, Kp.refl _ _ _⟩
    · have hl := plTab_nil (T := tab0) (R := R) (S := S) (t := t) (by omega)
      have HL := Lib.hid hl; clear hl
      generalize t.length = m at ht HM hn hd
      have hne : ((m : Int) == 0) = false := by simp; omega
      clear ht
      go_enter Try.func54, Try.ntmps54
      go_wp2
      refine wp_loop_rounds 1 ?_
      rw [rounds_succ]
      go_wp2_with (at_len; refine lenF _ rfl _ rfl Try.underlying85 _ _ _ rfl HM.out ?_)
      go_ret
      exact .inr ⟨HL.out, rfl, Kp.refl _ _ _⟩
set_option maxHeartbeats 1000000 in
set_option maxRecDepth 100000 in
theorem arePossibleI_any (ao : Option Addr) (n cap : Nat) (t : List Dm) (R S : Int) (bo : Option Addr) (m c : Nat) (bs : List Bk) (w : World) (hr : RdDm w ao n t) (hn : n ≤ 9223372036854775807) (hb : RdBk w bo m bs) :
    Calls Try.prog 17 #[.slice ao n cap, .int .i64 R, .int .i64 S, .slice bo m c] w fun e w' => e = .returned (.bool (arePossible t R S bs)) ∧ Below w.heap.size w w' := by
  have HG := Lib.hid (plannerFor_any ao n cap t R S w hr hn)
  have HBR := Lib.hid hb
  clear hr hb
  go_enter Try.func17, Try.ntmps17
  go_wp2_with fail
  refine HG.out.mono ?_
  rintro e w1 (⟨hc, rfl, b1⟩ | ⟨hc, p, mb, rfl, hp, hm, pl, b1⟩)
  · have HE := Lib.hid (arePossible_bad (bs := bs) hc)
    have hne : (planCode t R S == 0) = false := by simpa using hc
    generalize planCode t R S = q at hne
    clear hc
    go_wp2
    go_ret
    rw [HE.out]
    exact ⟨rfl, b1⟩
  · have HK := Lib.hid (okPl hc)
    have HP := Lib.hid (giveAllG_any p mb R.toNat S.toNat t bo m c bs w w1 pl HBR.out b1 hp hm HK.out.len (demands_pow HK.out.dm) HK.out.R8 HK.out.S16)
    have HC := Lib.hid hc
    have HB := Lib.hid b1
    clear hc pl b1
    go_wp2_with fail
    refine HP.out.mono ?_
    rintro e w2 (⟨U, hl, rfl, -, k2⟩ | ⟨hl, rfl, k2⟩)
    · have HE2 := Lib.hid (arePossible_some HC.out hl)
      have HBF := Lib.hid (HB.out.trans (k2.below hp hm HB.out.size))
      clear hl k2
      go_wp2
      go_ret
      rw [HE2.out]
      exact ⟨rfl, HBF.out⟩
    · have HE2 := Lib.hid (arePossible_none HC.out hl)
      have HBF := Lib.hid (HB.out.trans (k2.below hp hm HB.out.size))
      clear hl k2
      go_wp2
      go_ret
      rw [HE2.out]
      exact ⟨rfl, HBF.out⟩
/-! ### how many slots -/
theorem planCode_16 (t : List Dm) (R : Int) : planCode t R 16 = if areDms t = false then 1 else if isPow R = false then 2 else 0 := by
  unfold planCode plFrame
  cases areDms t <;> cases isPow R <;> rfl
theorem slotsNeeded_bad {t : List Dm} {R : Int} (h : planCode t R 16 ≠ 0) : slotsNeeded t R = (0, planCode t R 16) := by
  rw [planCode_16] at h ⊢
  unfold slotsNeeded
  cases h1 : areDms t
  · simp
  · cases h2 : isPow R
    · simp
    · simp [h1, h2] at h
theorem slotsNeeded_none {t : List Dm} {R : Int} (h : planCode t R 16 = 0) (hl : plPlan tab0 R.toNat 16 0 t = none) : slotsNeeded t R = (0, 4) := by
  have hk := okPl h
  simp [slotsNeeded, hk.dm, hk.R, hl]
theorem slotsNeeded_some {t : List Dm} {R : Int} {l : List Bk} (h : planCode t R 16 = 0) (hl : plPlan tab0 R.toNat 16 0 t = some l) : slotsNeeded t R = (plMost l, 0) := by
  have hk := okPl h
  simp [slotsNeeded, hk.dm, hk.R, hl]
theorem plMost_take {l : List Bk} {k : Nat} (h : k < l.length) : plMost (l.take (k + 1)) = max (plMost (l.take k)) ((bkOf l k).slot + 1) := by
  unfold plMost
  rw [List.take_succ_eq_append_getElem h, List.foldl_append, bkOf_get h]; rfl
set_option maxHeartbeats 2000000 in
set_option maxRecDepth 100000 in
theorem slotsNeededI_any (ao : Option Addr) (n cap : Nat) (t : List Dm) (R : Int) (w : World) (hr : RdDm w ao n t) (hn : n ≤ 9223372036854775807) :
    Calls Try.prog 30 #[.slice ao n cap, .int .i64 R] w fun e w' => e = .returned (.tuple #[.int .i64 (slotsNeeded t R).1, .int .i64 (slotsNeeded t R).2]) ∧ Below w.heap.size w w' := by
  have HG := Lib.hid (plannerFor_any ao n cap t R 16 w hr hn)
  clear hr
  go_enter Try.func30, Try.ntmps30
  go_wp2_with fail
  refine HG.out.mono ?_
  rintro e w1 (⟨hc, rfl, b1⟩ | ⟨hc, p, mb, rfl, hp, hm, pl, b1⟩)
  · have HE := Lib.hid (slotsNeeded_bad hc)
    have hne : (planCode t R 16 != 0) = true := by simpa using hc
    generalize planCode t R 16 = q at hne HE
    clear hc
    go_wp2
    go_ret2
    exact ⟨by rw [HE.out]; rfl, b1⟩
  · have HK := Lib.hid (okPl hc)
    have HP := Lib.hid (plan_any p mb R.toNat 16 tab0 t w1 pl HK.out.len (demands_pow HK.out.dm) HK.out.R8 (by omega))
    have HC := Lib.hid hc
    have HB := Lib.hid b1
    have h40 := areDms_len HK.out.dm
    clear hc pl b1
    go_wp2_with fail
    refine HP.out.mono ?_
    rintro e w2 (⟨l, v, hl, rfl, o2, k2⟩ | ⟨hl, rfl, k2⟩)
    · have HE2 := Lib.hid (slotsNeeded_some HC.out hl)
      have hlen := plPlan_len _ _ _ hl
      have HSL := Lib.hid (fun b (hb : b ∈ l) => plPlan_slot _ _ _ hl b hb)
      have HBF := Lib.hid (HB.out.trans (k2.below hp hm HB.out.size))
      obtain ⟨ao2, cap2, rfl, o2, r2⟩ := o2.get
      have HR := Lib.hid r2
      have hcap := o2.cap
      clear hl k2 r2 o2 HP HG
      rw [hlen] at HR hcap ⊢
      generalize t.length = n' at hlen HR h40 hcap
      have HLN := Lib.hid hlen; clear hlen
      go_wp2
      go_loopw [9, 31] (fun a i wr => ∃ (k : Nat) (q : Int), i = .int .i64 (k : Int) ∧ k ≤ n' ∧ a = .int .i64 q ∧ (1 ≤ q ∧ q ≤ 16) ∧ Hid (q = plMost (l.take k)) ∧ Hid (Below w2.heap.size w2 wr)) (fun _ i _ => n' - (intOf i).toNat)
      case atStart => exact ⟨0, 1, rfl, Nat.zero_le _, rfl, by omega, rfl, Below.refl _ _⟩
      case round =>
        obtain ⟨k, q, rfl, hk, rfl, ⟨hq0, hq1⟩, HQ, HB2⟩ := hrel
        by_cases hlt : k < n'
        · have hkl : k < l.length := by rw [HLN.out]; exact hlt
          obtain ⟨g, off, rfl, hg, hx⟩ := HR.out.at hlt
          replace hx := hx.below HB2.out hg
          have hmx := plMost_take hkl
          rw [← HQ.out] at hmx
          have hsl := HSL.out (bkOf l k) (by rw [bkOf_get hkl]; exact List.getElem_mem hkl)
          generalize bkOf l k = b at hx hmx hsl
          obtain ⟨h0, h1⟩ := hx
          obtain ⟨q2, hq2⟩ : ∃ q2, q2 = max q (b.slot + 1) := ⟨_, rfl⟩
          have hw : IntKind.i64.wrap (b.slot + 1) = b.slot + 1 := by rw [IntKind.wrap_i64]; omega
          have HQ2 := Lib.hid (show q2 = plMost (l.take (k + 1)) from hq2.trans hmx.symm)
          have HQ3 := Lib.hid hq2
          have hr0 : 1 ≤ q2 := by omega
          have hr1 : q2 ≤ 16 := by omega
          have HB3 := Lib.hid (HB2.out.alloc (B := w2.heap.size) HB2.out.size (.cells #[.int .i64 b.slot, .int .i64 b.phase] 31))
          clear hmx hg hq2
          go_wp2
          clear h0 h1 hw
          all_goals (go_roundw)
          all_goals first | (case rel => exact ⟨k + 1, q2, by go_num, by omega, by rw [HQ3.out]; congr 1; omega, by omega, HQ2.out, HB3.out⟩) | (case measure => simp [intOf]; omega)
        · have hkn : k = n' := by omega
          subst hkn
          have HE3 := Lib.hid (show slotsNeeded t R = (q, 0) from by rw [HE2.out, HQ.out, ← HLN.out, List.take_length])
          go_wp2
          go_ret2
          exact ⟨by rw [HE3.out]; rfl, below_two HBF.out HB2.out⟩
    · have HE2 := Lib.hid (slotsNeeded_none HC.out hl)
      have HBF := Lib.hid (HB.out.trans (k2.below hp hm HB.out.size))
      clear hl k2
      go_wp2
      go_ret2
      exact ⟨by rw [HE2.out]; rfl, HBF.out⟩
/-! ### the table -/
theorem info_tb : (Try.prog.info? 45).map (fun i => (i.zero, i.size, i.bytes)) = some (some (.slice none 0 0), 1, 24) := by kernel_rfl
theorem plClone_any (ad : Addr) (n cap : Nat) (t : List Int) (w : World) (hr : Rd w (some ad) n t) (hn : n ≤ 1048576) :
    Calls Try.prog 60 #[.slice (some ad) n cap] w (Makes 2 w t) := by
  have HR := Lib.hid hr; clear hr
  have hrun : (Sem.run Try.prog (binOp BinOp.eql 45 (Value.slice (some ad) n cap) (Value.slice none 0 0)) w) = .ok (.bool false) w := by kernel_rfl
  go_enter Try.func60, Try.ntmps60
  go_wp2_with (at_builtin; refine append_list _ rfl (.tmp 5) (.tmp 6) rfl w.heap.size Try.underlying45 info64 _ [] rfl (Own.of_alloc_nil (Nat.le_refl _)) _ _ _ t rfl (HR.out.below ((Below.refl _ _).alloc (Nat.le_refl _) _)) (by simp; omega) (by simp) ?_; intro v1 w1 o1 b1)
  go_ret
  exact ⟨_, rfl, o1, ((Below.refl _ _).alloc (Nat.le_refl _) _).trans b1⟩
/-- One row of a table. -/
def plRow (U : Tab) (S r : Nat) : List Int := (List.range S).map (U r)
theorem plRow_len (U : Tab) (S r : Nat) : (plRow U S r).length = S := by simp [plRow]
theorem plRow_at {U : Tab} {S r i : Nat} (h : i < S) : (plRow U S r).getD i 0 = U r i := by simp [plRow, List.getD, h]
theorem plRows_eq (U : Tab) (R S : Nat) : plRows U R S = (List.range R).map (plRow U S) := rfl
/-- The rows while they are stored. -/
def fillR (U : Tab) (R S k : Nat) : List (List Int) := (List.range R).map fun r => if r < k then plRow U S r else []
theorem fillR_zero (U : Tab) (R S : Nat) : fillR U R S 0 = List.replicate R [] := by
  unfold fillR
  refine List.eq_replicate_iff.2 ⟨by simp, fun x hx => ?_⟩
  obtain ⟨i, _, rfl⟩ := List.mem_map.1 hx
  rw [if_neg (by omega)]
theorem fillR_all (U : Tab) (R S : Nat) : fillR U R S R = plRows U R S := by
  rw [plRows_eq]
  unfold fillR
  refine List.map_congr_left fun i hi => ?_
  rw [if_pos (List.mem_range.1 hi)]
theorem fillR_next (U : Tab) (R S k : Nat) : (fillR U R S k).set k (plRow U S k) = fillR U R S (k + 1) := by
  unfold fillR
  apply List.ext_getElem (by simp)
  intro i h1 h2
  have hi : i < R := by simpa using h2
  rw [List.getElem_set]
  simp only [List.getElem_map, List.getElem_range]
  by_cases e : k = i
  · subst e; rw [if_pos rfl, if_pos (by omega)]
  · rw [if_neg e]
    by_cases h3 : i < k
    · rw [if_pos h3, if_pos (by omega)]
    · rw [if_neg h3, if_neg (by omega)]
theorem rwx_set (rs : List Rw) (k : Nat) (x : Rw) : rwx (rs.set k x) = (rwx rs).set k x.xs := by simp [rwx, List.map_set]
theorem rwx_replicate (n : Nat) : rwx (List.replicate n Rw.zero) = List.replicate n [] := by simp [rwx, Rw.zero]
theorem PlAt.rdRow {w : World} {p mb R S k : Nat} {U : Tab} {t : List Dm} (h : PlAt w p mb R S U t k) {r : Nat} (hr : r < 8) (hS : S ≤ 16) : Rd w (some ⟨p, 2 + r * 16, none⟩) S (plRow U S r) :=
  ⟨plRow_len _ _ _, fun _ => ⟨p, 2 + r * 16, rfl, fun i hi => by rw [plRow_at hi]; exact h.ct hr (by omega)⟩⟩
set_option maxHeartbeats 2000000 in
set_option maxRecDepth 100000 in
theorem planTableI_any (ao : Option Addr) (n cap : Nat) (t : List Dm) (R S : Int) (bo : Option Addr) (m c : Nat) (bs : List Bk) (w : World) (hr : RdDm w ao n t) (hn : n ≤ 9223372036854775807) (hb : RdBk w bo m bs) :
    Calls Try.prog 22 #[.slice ao n cap, .int .i64 R, .int .i64 S, .slice bo m c] w (MakesT2 45 2 w (planTable t R S bs).1 (planTable t R S bs).2) := by
  have HG := Lib.hid (plannerFor_any ao n cap t R S w hr hn)
  have HBR := Lib.hid hb
  clear hr hb
  go_enter Try.func22, Try.ntmps22
  go_wp2_with fail
  refine HG.out.mono ?_
  rintro e w1 (⟨hc, rfl, b1⟩ | ⟨hc, p, mb, rfl, hp, hm, pl, b1⟩)
  · have HE := Lib.hid (planTable_bad (bs := bs) hc)
    have hne : (planCode t R S != 0) = true := by simpa using hc
    generalize planCode t R S = q at hne HE
    clear hc
    go_wp2
    go_ret2
    exact ⟨.slice none 0 0, [], by rw [HE.out]; rfl, by rw [HE.out]; rfl, OwnT.nil_, b1⟩
  · have HK := Lib.hid (okPl hc)
    have HP := Lib.hid (giveAllG_any p mb R.toNat S.toNat t bo m c bs w w1 pl HBR.out b1 hp hm HK.out.len (demands_pow HK.out.dm) HK.out.R8 HK.out.S16)
    have HC := Lib.hid hc
    have HB := Lib.hid b1
    have hR8 := HK.out.R8; have hS16 := HK.out.S16; have hS0 := HK.out.S0; have hR0 := isPow_iff.1 HK.out.R
    clear hc pl b1
    go_wp2_with fail
    refine HP.out.mono ?_
    rintro e w2 (⟨U, hl, rfl, pl2, k2⟩ | ⟨hl, rfl, k2⟩)
    · have HE2 := Lib.hid (planTable_some HC.out hl)
      have HBF := Lib.hid (HB.out.trans (k2.below hp hm HB.out.size))
      have HPL := Lib.hid pl2
      clear hl k2 pl2 HP HG
      obtain ⟨r, rfl⟩ : ∃ r : Nat, R = (r : Int) := ⟨R.toNat, by omega⟩
      obtain ⟨s, rfl⟩ : ∃ s : Nat, S = (s : Int) := ⟨S.toNat, by omega⟩
      rw [Int.toNat_natCast, Int.toNat_natCast] at HE2 HPL
      rw [Int.toNat_natCast] at hR8 hS16
      clear hR0
      go_upto_region 7 with (at_make; refine make_tb (E := 45) (EI := 2) _ rfl _ _ rfl w2.heap.size Try.underlying41 info_tb _ _ _ _ r rfl rfl rfl rfl (by omega) (Nat.le_refl _) ?_; intro w3 o3 b3)
      have HO := Lib.hid o3
      have HB3 := Lib.hid b3
      have hpl : p < w2.heap.size := HPL.out.lt
      have hml : mb < w2.heap.size := HPL.out.mlt
      have HF0 := Lib.hid (show rwx (List.replicate r Rw.zero) = fillR U r s 0 from by rw [fillR_zero, rwx_replicate])
      have HL0 := Lib.hid (show (List.replicate r Rw.zero).length = r from List.length_replicate ..)
      clear o3 b3
      generalize List.replicate r Rw.zero = rs0 at HO HF0 HL0
      go_wp2
      go_loopw [34] (fun i wr => ∃ (k : Nat) (rs : List Rw), i = .int .i64 (k : Int) ∧ k ≤ r ∧ Hid (rs.length = r) ∧ Hid (rwx rs = fillR U r s k) ∧ Hid (OwnT 45 2 wr w2.heap.size (.slice (some ⟨w2.heap.size, 0, none⟩) r r) rs) ∧ Hid (Below w2.heap.size w2 wr)) (fun i _ => r - (intOf i).toNat)
      case atStart => exact ⟨0, rs0, rfl, Nat.zero_le _, HL0.out, HF0.out, HO.out, HB3.out⟩
      case round =>
        clear HF0 HL0 HO HB3
        obtain ⟨k, rs, rfl, hk, HLR, HFR, HO, HB3⟩ := hrel
        by_cases hlt : k < r
        · have HP3 := Lib.hid (HPL.out.below HB3.out hpl hml)
          have hk8 : (k : Int) < 8 := by omega
          have hs16 : (s : Int) ≤ 16 := by omega
          have HCL := Lib.hid (plClone_any ⟨p, 2 + k * 16, none⟩ s 16 (plRow U s k) wr (HP3.out.rdRow (by omega) hS16) (by omega))
          have HRX := Lib.hid (plRow_len U s k)
          have HNX := Lib.hid (fillR_next U r s k)
          go_wp2_with fail
          refine HCL.out.mono ?_
          rintro e w4 ⟨v4, rfl, o4, b4⟩
          obtain ⟨a4, c4, rfl, o4, -⟩ := o4.get
          rw [HRX.out] at o4 ⊢
          have hfr := (HO.out.fresh o4)
          have HO4 := HO.out.below b4
          have hst := HO4.store (by decide) HLR.out hlt ⟨plRow U s k, a4, c4⟩ (by show Own _ _ _ (.slice a4 (plRow U s k).length c4) _; rw [HRX.out]; exact o4.more HB3.out.size) (by intro d hd j e1; show Value.ownBlock (.slice a4 (plRow U s k).length c4) ≠ some j; rw [HRX.out]; exact hfr d hd j e1)
          obtain ⟨hc0, hf0, hst, hbs⟩ := hst
          have HBB := Lib.hid ((below_two HB3.out b4).trans hbs)
          have HSL := Lib.hid (show (rs.set k ⟨plRow U s k, a4, c4⟩).length = r from by rw [List.length_set]; exact HLR.out)
          have HSF := Lib.hid (show rwx (rs.set k ⟨plRow U s k, a4, c4⟩) = fillR U r s (k + 1) from by rw [rwx_set, HFR.out]; exact HNX.out)
          have hv4 : (⟨plRow U s k, a4, c4⟩ : Rw).v = .slice a4 s c4 := by unfold Rw.v; rw [HRX.out]
          rw [hv4] at hst HBB
          have HST := Lib.hid hst
          clear hst hbs hv4 hfr HO4 o4 b4
          generalize (rwOf rs k).v = z at hc0
          go_wp2
          go_roundw
          case rel => exact ⟨k + 1, _, by go_num, by omega, HSL.out, HSF.out, HST.out, HBB.out⟩
          case measure => simp [intOf]; omega
        · have hkn : k = r := by omega
          subst hkn
          have HF := Lib.hid (show rwx rs = plRows U k s from by rw [HFR.out, fillR_all])
          go_wp2
          go_ret2
          exact ⟨_, rs, by rw [HE2.out]; exact HF.out, by rw [HE2.out]; rfl, HO.out.more HBF.out.size, below_two HBF.out HB3.out⟩
    · have HE2 := Lib.hid (planTable_none HC.out hl)
      have HBF := Lib.hid (HB.out.trans (k2.below hp hm HB.out.size))
      clear hl k2
      go_wp2
      go_ret2
      exact ⟨.slice none 0 0, [], by rw [HE2.out]; rfl, by rw [HE2.out]; rfl, OwnT.nil_, HBF.out⟩
end Go.Proofs.Ytbbodgeoenjdkaa
