/-
  The laws' functions on Demand: made, measured, compared, marked, found again.
-/
import Derived.Test.YtbbodgeoenjdkaaPlD
namespace Go.Proofs.Ytbbodgeoenjdkaa
open Go.RowKit

theorem info_dm : (Try.prog.info? 38).map (fun i => (i.zero, i.size, i.bytes)) = some (some (dmVal Dm.zero), 3, 24) := by kernel_rfl
theorem todm_any (x : Dm) (w : World) : Calls Try.prog 66 #[dmVal x] w fun e w' => e = .returned (dmVal x) ∧ Below w.heap.size w w' := by
  unfold dmVal
  go_enter Try.func66, Try.ntmps66
  go_wp2
  exact bodyPost_ret (v := .agg #[.int .i64 x.node, .int .i64 x.every, .int .i64 x.size]) (by simp [results, Try.results66, go_sem]) rfl ⟨rfl, (((Below.refl _ _).alloc (Nat.le_refl _) _).alloc (by simp) _).alloc (by simp; omega) _⟩
def fillDm (t : List Dm) (k : Nat) : List Dm := t.take k ++ List.replicate (t.length - k) Dm.zero
theorem fillDm_len (t : List Dm) (k : Nat) (hk : k ≤ t.length) : (fillDm t k).length = t.length := by
  unfold fillDm; rw [List.length_append, List.length_take, List.length_replicate]; omega
theorem fillDm_zero (t : List Dm) : fillDm t 0 = List.replicate t.length Dm.zero := by simp [fillDm]
theorem fillDm_all (t : List Dm) : fillDm t t.length = t := by simp [fillDm]
theorem fillDm_succ (t : List Dm) (k : Nat) (hk : k < t.length) : (fillDm t k).set k (dmOf t k) = fillDm t (k + 1) := by
  have hm : min k t.length = k := by omega
  unfold fillDm
  rw [dmOf_get hk, List.take_succ_eq_append_getElem hk, List.set_append_right _ _ (by rw [List.length_take]; omega)]
  rw [show t.length - k = (t.length - (k + 1)) + 1 from by omega, List.replicate_succ, List.length_take, hm, Nat.sub_self, List.set_cons_zero]
  rw [List.append_assoc]; rfl
set_option maxHeartbeats 1000000 in
set_option maxRecDepth 100000 in
/-- laws.toDemandS: a copy in new memory. -/
theorem todms_any (ao : Option Addr) (n cap : Nat) (t : List Dm) (w : World) (hr : RdDm w ao n t) (hn : n ≤ 1048576) :
    Calls Try.prog 33 #[.slice ao n cap] w (MakesDm 38 w t) := by
  have HL := Lib.hid hr.len
  have HR := Lib.hid hr; clear hr
  go_enter Try.func33, Try.ntmps33
  go_wp2_with (at_make; refine make_dm _ rfl _ _ rfl w.heap.size Try.underlying24 info_dm _ _ _ _ n rfl rfl rfl rfl (by omega) (Nat.le_refl _) ?_; intro w1 o1 b1)
  have o1' : OwnDm 38 w1 w.heap.size (.slice (some ⟨w.heap.size, 0, none⟩) n n) (fillDm t 0) := by rw [fillDm_zero, HL.out]; exact o1
  clear o1
  go_loopw [4] (fun i wr => ∃ k : Nat, k ≤ n ∧ i = .int .i64 k ∧ OwnDm 38 wr w.heap.size (.slice (some ⟨w.heap.size, 0, none⟩) n n) (fillDm t k) ∧ Below w.heap.size w wr) (fun i _ => n - (intOf i).toNat)
  case atStart => exact ⟨0, Nat.zero_le _, rfl, o1', b1⟩
  case round =>
    clear o1' b1
    obtain ⟨k, hk, rfl, hown, hb⟩ := hrel
    by_cases hlt : k < n
    · have hkt : k < t.length := by rw [HL.out]; exact hlt
      obtain ⟨g, off, rfl, hg, hx⟩ := HR.out.at hlt
      replace hx := hx.below hb hg
      have hfl := fillDm_len t k (by omega)
      have hsucc := fillDm_succ t k hkt
      obtain ⟨x, hxe⟩ : ∃ x, x = dmOf t k := ⟨_, rfl⟩
      rw [← hxe] at hx hsucc
      have HSUCC := Lib.hid hsucc
      have HFL := Lib.hid (hfl.trans HL.out)
      have HOWN := Lib.hid hown; have HB := Lib.hid hb
      have HT := Lib.hid (fun W => todm_any x W)
      unfold dmVal at HT
      clear hsucc hfl hown hb hxe hkt
      obtain ⟨h0, h1, h2⟩ := hx
      go_wp2_with fail
      refine (HT.out _).mono ?_
      rintro e w2 ⟨rfl, b2⟩
      clear h0 h1 h2
      have HB2 := Lib.hid (below_two HB.out b2)
      obtain ⟨hz, fz, hst, hbst⟩ := (HOWN.out.below b2).store HFL.out hlt x
      rw [HSUCC.out] at hst
      have HST := Lib.hid hst; have HBST := Lib.hid (HB2.out.trans hbst); clear hst hbst b2
      obtain ⟨z0, z1, z2⟩ := hz
      generalize dmOf (fillDm t k) k = z at z0 z1 z2
      go_wp2_with fail
      clear z0 z1 z2 fz
      go_roundw
      case rel => exact ⟨k + 1, by omega, by go_num, HST.out, HBST.out⟩
      case measure => simp [intOf]; omega
    · have hkn : k = n := by omega
      subst hkn
      have HO := Lib.hid hown; clear hown
      go_wp2_with fail
      go_ret
      refine ⟨_, rfl, ?_, hb⟩
      have h := HO.out
      rw [← HL.out, fillDm_all] at h
      have hl := HL.out
      subst hl
      exact h
/-! ### measured -/
def szDm (t : List Dm) (m : Int) : Int := if m < t.length then -1 else m - t.length
theorem szDm_ok {t : List Dm} {m : Int} (h : 0 ≤ szDm t m) : (t.length : Int) ≤ m := by
  unfold szDm at h
  split at h
  · omega
  · omega
theorem szDm_le (t : List Dm) {m : Int} (h : 0 ≤ m) : szDm t m ≤ m := by
  unfold szDm
  split <;> omega
theorem szdms_any (ao : Option Addr) (n cap : Nat) (t : List Dm) (M : Int) (hM0 : 0 ≤ M) (hM1 : M ≤ 1048576) (w : World) (hl : t.length = n) (hn : n ≤ 9223372036854775807) :
    Calls Try.prog 32 #[.slice ao n cap, .int .i64 M] w fun e w' => e = .returned (.int .i64 (szDm t M)) ∧ w = w' := by
  have HL := Lib.hid hl
  clear hl
  have hw : IntKind.i64.wrap (M - (n : Int)) = M - n := by rw [IntKind.wrap_i64]; omega
  by_cases hbig : M < n
  · have HF := Lib.hid (show szDm t M = -1 from by unfold szDm; rw [if_pos (by rw [HL.out]; exact hbig)])
    have hq : M - (n : Int) < 0 := by omega
    go_enter Try.func32, Try.ntmps32
    go_wp2_with fail
    go_ret
    rw [HF.out]
    exact ⟨rfl, rfl⟩
  have hq : ¬ M - (n : Int) < 0 := by omega
  have HF := Lib.hid (show szDm t M = M - n from by unfold szDm; rw [if_neg (by rw [HL.out]; exact hbig), HL.out])
  go_enter Try.func32, Try.ntmps32
  go_wp2_with fail
  go_ret
  rw [HF.out]
  exact ⟨rfl, rfl⟩
/-! ### compared -/
theorem eqdm_any (x : Dm) (w : World) : Calls Try.prog 67 #[dmVal x, dmVal x] w fun e w' => e = .returned (.bool true) ∧ Below w.heap.size w w' := by
  have h0 : (x.node != x.node) = false := by simp
  have h1 : (x.every != x.every) = false := by simp
  have h2 : (x.size != x.size) = false := by simp
  unfold dmVal
  go_enter Try.func67, Try.ntmps67
  go_wp2
  go_ret
  exact ⟨rfl, ((Below.refl _ _).alloc (Nat.le_refl _) _).alloc (by simp) _⟩
set_option maxHeartbeats 1000000 in
set_option maxRecDepth 100000 in
set_option linter.unusedSimpArgs false in
/-- laws.eqDemandS of one list read twice. -/
theorem eqdms_yes (ao bo : Option Addr) (n c d : Nat) (t : List Dm) (w : World) (hx : RdDm w ao n t) (hy : RdDm w bo n t) (hn : n ≤ 9223372036854775807) (hc : n ≤ c) (hd : n ≤ d) :
    Calls Try.prog 34 #[.slice ao n c, .slice bo n d] w fun e w' => e = .returned (.bool true) ∧ Below w.heap.size w w' := by
  have HX := Lib.hid hx; have HY := Lib.hid hy; clear hx hy
  have hne : ((n : Int) != (n : Int)) = false := by simp
  go_enter Try.func34, Try.ntmps34
  go_wp2_with fail
  clear hne
  go_loopw [5] (fun i wr => ∃ k : Nat, k ≤ n ∧ i = .int .i64 k ∧ Below w.heap.size w wr) (fun i _ => n - (intOf i).toNat)
  case atStart => exact ⟨0, Nat.zero_le _, rfl, Below.refl _ _⟩
  case round =>
    obtain ⟨k, hk, rfl, hb⟩ := hrel
    by_cases hlt : k < n
    · obtain ⟨g, off, rfl, hg, hx⟩ := HX.out.at hlt
      obtain ⟨g', off', rfl, hg', hy⟩ := HY.out.at hlt
      replace hx := hx.below hb hg
      replace hy := hy.below hb hg'
      have HB := Lib.hid hb; clear hb
      obtain ⟨x, hxe⟩ : ∃ x, x = dmOf t k := ⟨_, rfl⟩
      rw [← hxe] at hx hy
      clear hxe
      have HXW := Lib.hid (fun W (hW : Below wr.heap.size wr W) => (hx.below hW hx.lt).all)
      have HYW := Lib.hid (fun W (hW : Below wr.heap.size wr W) => (hy.below hW hy.lt).all)
      have HD := Lib.hid (show Below wr.heap.size wr wr.drew from Below.drew (Below.refl _ _))
      have HCALL := Lib.hid (fun W => eqdm_any x W)
      unfold dmVal at HCALL
      clear hx hy hg hg'
      go_upto_region 6 with fail
      refine wp_region_held_drew (S := fun w' => (w'.cell? ⟨g, off + k * 3, none⟩ = some (Value.int .i64 x.node) ∧ w'.cell? ⟨g, off + k * 3 + 1, none⟩ = some (Value.int .i64 x.every) ∧ w'.cell? ⟨g, off + k * 3 + 2, none⟩ = some (Value.int .i64 x.size)) ∧ (w'.cell? ⟨g', off' + k * 3, none⟩ = some (Value.int .i64 x.node) ∧ w'.cell? ⟨g', off' + k * 3 + 1, none⟩ = some (Value.int .i64 x.every) ∧ w'.cell? ⟨g', off' + k * 3 + 2, none⟩ = some (Value.int .i64 x.size))) (by kernel_rfl) (⟨HXW.out _ HD.out, HYW.out _ HD.out⟩) (fun hHeld => ?_)
      generalize wr.drew = w1 at HD hHeld ⊢
      refine wpAnyH_take (i := 0) (v := ?_) rfl (by kernel_rfl) (by kernel_rfl) (by kernel_rfl) (fun _ _ _ h => h) (Or.inl ⟨by rfl, ?_⟩) (by assumption) ?_
      rotate_left
      · (intro w hSw; (try dsimp only at hSw); go_simp; (try with_reducible rfl))
      try simp only [List.getElem_toArray, List.getElem_cons_succ, List.getElem_cons_zero, Act.put, List.setIfInBounds_toArray, List.set_cons_zero, List.set_cons_succ]
      refine wpAnyH_take (i := 1) (v := ?_) rfl (by kernel_rfl) (by kernel_rfl) (by kernel_rfl) (fun _ _ _ h => h) (Or.inl ⟨by rfl, ?_⟩) (by assumption) ?_
      rotate_left
      · (intro w hSw; (try dsimp only at hSw); go_simp; (try with_reducible rfl))
      try simp only [List.getElem_toArray, List.getElem_cons_succ, List.getElem_cons_zero, Act.put, List.setIfInBounds_toArray, List.set_cons_zero, List.set_cons_succ]
      refine wpAnyH_take (i := 2) (v := ?_) rfl (by kernel_rfl) (by kernel_rfl) (by kernel_rfl) (fun _ _ _ h => h) (Or.inl ⟨by rfl, ?_⟩) (by assumption) ?_
      rotate_left
      · (intro w hSw; (try dsimp only at hSw); go_simp; (try with_reducible rfl))
      try simp only [List.getElem_toArray, List.getElem_cons_succ, List.getElem_cons_zero, Act.put, List.setIfInBounds_toArray, List.set_cons_zero, List.set_cons_succ]
      refine wpAnyH_take (i := 3) (v := ?_) rfl (by kernel_rfl) (by kernel_rfl) (by kernel_rfl) (fun _ _ _ h => h) (Or.inl ⟨by rfl, ?_⟩) (by assumption) ?_
      rotate_left
      · (intro w hSw; (try dsimp only at hSw); go_simp; (try with_reducible rfl))
      try simp only [List.getElem_toArray, List.getElem_cons_succ, List.getElem_cons_zero, Act.put, List.setIfInBounds_toArray, List.set_cons_zero, List.set_cons_succ]
      refine wpAnyH_take (i := 4) (v := ?_) rfl (by kernel_rfl) (by kernel_rfl) (by kernel_rfl) (fun _ _ _ h => h) (Or.inl ⟨by rfl, ?_⟩) (by assumption) ?_
      rotate_left
      · (intro w hSw; (try dsimp only at hSw); go_simp; (try with_reducible rfl))
      try simp only [List.getElem_toArray, List.getElem_cons_succ, List.getElem_cons_zero, Act.put, List.setIfInBounds_toArray, List.set_cons_zero, List.set_cons_succ]
      refine wpAnyH_take (i := 5) (v := ?_) rfl (by kernel_rfl) (by kernel_rfl) (by kernel_rfl) (fun _ _ _ h => h) (Or.inl ⟨by rfl, ?_⟩) (by assumption) ?_
      rotate_left
      · (intro w hSw; (try dsimp only at hSw); go_simp; (try with_reducible rfl))
      try simp only [List.getElem_toArray, List.getElem_cons_succ, List.getElem_cons_zero, Act.put, List.setIfInBounds_toArray, List.set_cons_zero, List.set_cons_succ]
      refine wpAnyH_take (i := 6) (v := ?_) rfl (by kernel_rfl) (by kernel_rfl) (by kernel_rfl) (fun _ _ _ h => h) (Or.inl ⟨by rfl, ?_⟩) (by assumption) ?_
      rotate_left
      · (intro w hSw; (try dsimp only at hSw); go_simp; (try with_reducible rfl))
      try simp only [List.getElem_toArray, List.getElem_cons_succ, List.getElem_cons_zero, Act.put, List.setIfInBounds_toArray, List.set_cons_zero, List.set_cons_succ]
      refine wpAnyH_take (i := 7) (v := ?_) rfl (by kernel_rfl) (by kernel_rfl) (by kernel_rfl) (fun _ _ _ h => h) (Or.inl ⟨by rfl, ?_⟩) (by assumption) ?_
      rotate_left
      · (intro w hSw; (try dsimp only at hSw); go_simp; (try with_reducible rfl))
      try simp only [List.getElem_toArray, List.getElem_cons_succ, List.getElem_cons_zero, Act.put, List.setIfInBounds_toArray, List.set_cons_zero, List.set_cons_succ]
      refine wpAnyH_ready (rs := [8]) (by kernel_rfl) (by simp) (AllReadyH.cons rfl (fun K hK => ?_) AllReadyH.nil)
      go_simp
      refine (HCALL.out _).mono ?_
      rintro e w2 ⟨rfl, b2⟩
      have HD2 := Lib.hid (below_two HD.out b2); clear b2
      go_wp2_with fail
      refine hK.out _ _ ?_ (fun hHeld => ?_)
      · exact ⟨HXW.out _ HD2.out, HYW.out _ HD2.out⟩
      clear hK K
      try simp only [List.getElem_toArray, List.getElem_cons_succ, List.getElem_cons_zero, Act.put, List.setIfInBounds_toArray, List.set_cons_zero, List.set_cons_succ]
      refine wpAnyH_take (i := 9) (v := ?_) rfl (by kernel_rfl) (by kernel_rfl) (by kernel_rfl) (fun _ _ _ h => h) (Or.inl ⟨by rfl, ?_⟩) (by assumption) ?_
      rotate_left
      · (intro w hSw; (try dsimp only at hSw); go_simp; (try with_reducible rfl))
      try simp only [List.getElem_toArray, List.getElem_cons_succ, List.getElem_cons_zero, Act.put, List.setIfInBounds_toArray, List.set_cons_zero, List.set_cons_succ]
      refine wpAnyH_done (by kernel_rfl) ?_ _
      have HBE := Lib.hid (below_two HB.out HD2.out)
      go_wp2_with fail
      go_roundw
      case rel => exact ⟨k + 1, by omega, by go_num, HBE.out⟩
      case measure => simp [intOf]; omega
    · have hkn : k = n := by omega
      subst hkn
      have HB := Lib.hid hb; clear hb
      go_wp2_with fail
      go_ret
      exact ⟨rfl, HB.out⟩

/-! ### marked -/
def mkDm (q : Int) (k : Nat) : Dm := ⟨q + 3 * k, q + 3 * k + 1, q + 3 * k + 2⟩
def marksDm (q : Int) (n : Nat) : List Dm := (List.range n).map (mkDm q)
theorem marksDm_len (q : Int) (n : Nat) : (marksDm q n).length = n := by simp [marksDm]
theorem marksDm_at {q : Int} {n k : Nat} (h : k < n) : dmOf (marksDm q n) k = mkDm q k := by
  rw [dmOf_get (by rw [marksDm_len]; exact h)]
  simp [marksDm]
def markToDm (q : Int) (t : List Dm) (k : Nat) : List Dm := marksDm q k ++ t.drop k
theorem markToDm_zero (q : Int) (t : List Dm) : markToDm q t 0 = t := by simp [markToDm, marksDm]
theorem markToDm_all (q : Int) (t : List Dm) : markToDm q t t.length = marksDm q t.length := by simp [markToDm]
theorem markToDm_len (q : Int) (t : List Dm) (k : Nat) (h : k ≤ t.length) : (markToDm q t k).length = t.length := by
  unfold markToDm; rw [List.length_append, marksDm_len, List.length_drop]; omega
theorem markToDm_succ (q : Int) (t : List Dm) (k : Nat) (h : k < t.length) : (markToDm q t k).set k (mkDm q k) = markToDm q t (k + 1) := by
  unfold markToDm
  rw [List.set_append_right _ _ (by rw [marksDm_len]; exact Nat.le_refl _), marksDm_len, Nat.sub_self, List.drop_eq_getElem_cons h, List.set_cons_zero]
  rw [show marksDm q (k + 1) = marksDm q k ++ [mkDm q k] from by simp [marksDm, List.range_succ]]
  simp
theorem mkDm_eq {q : Int} {k K : Nat} (h : q + 3 * (k : Int) = (K : Int)) : mkDm q k = ⟨(K : Int), (K : Int) + 1, (K : Int) + 1 + 1⟩ := by
  unfold mkDm
  rw [h, show (K : Int) + 2 = (K : Int) + 1 + 1 from by omega]
theorem grown_setDm (w : World) (g off : Nat) (x : Dm) : w.grownBy (setDm w g off x) (some g) := by
  unfold setDm
  exact grown_trans (grown_trans (grown_set w g off _) (grown_set _ g _ _)) (grown_set _ g _ _)
set_option maxHeartbeats 4000000 in
set_option maxRecDepth 100000 in
theorem markdms_row (g n cap base : Nat) (t : List Dm) (q : Int) (w : World) (hl : t.length = n) (ho : OwnDm 38 w base (.slice (some ⟨g, 0, none⟩) n cap) t) (hn : n ≤ 4194304) (hq0 : 1 ≤ q) (hq1 : q ≤ 16777216) :
    Calls Try.prog 36 #[.slice (some ⟨g, 0, none⟩) n cap, .int .i64 q] w fun e w' => e = .returned (.int .i64 (q + ((3 * n : Nat) : Int))) ∧ OwnDm 38 w' base (.slice (some ⟨g, 0, none⟩) n cap) (marksDm q n) ∧ w.grownBy w' (some g) := by
  have HL := Lib.hid hl
  have ho' : OwnDm 38 w base (.slice (some ⟨g, 0, none⟩) n cap) (markToDm q t 0) := by rw [markToDm_zero]; exact ho
  have HO := Lib.hid ho'; clear ho ho'
  go_enter Try.func36, Try.ntmps36
  go_wp2_with fail
  go_loopw [1, 5] (fun v i wr => ∃ k : Nat, k ≤ n ∧ i = .int .i64 k ∧ v = .int .i64 (q + 3 * k) ∧ Hid (OwnDm 38 wr base (.slice (some ⟨g, 0, none⟩) n cap) (markToDm q t k)) ∧ Hid (w.grownBy wr (some g))) (fun _ i _ => n - (intOf i).toNat)
  case atStart => exact ⟨0, Nat.zero_le _, rfl, by simp, HO.out, World.grownBy.refl _ _⟩
  case round =>
    clear HO
    obtain ⟨k, hk, rfl, rfl, ho, HG⟩ := hrel
    by_cases hlt : k < n
    · have hkt : k < t.length := by rw [HL.out]; exact hlt
      obtain ⟨K, hK⟩ : ∃ K : Nat, K = (q + 3 * k).toNat := ⟨_, rfl⟩
      have hKi : q + 3 * (k : Int) = (K : Int) := by omega
      have hK0 : 0 < K := by omega
      have hK1 : K ≤ 67108864 := by omega
      have HNEXT := Lib.hid (show q + 3 * ((k + 1 : Nat) : Int) = (K : Int) + 1 + 1 + 1 from by omega)
      obtain ⟨hin, hfz, hst, -⟩ := ho.out.store ((markToDm_len q t k (by omega)).trans HL.out) hlt (mkDm q k)
      rw [markToDm_succ q t k hkt, mkDm_eq hKi] at hst
      have HST := Lib.hid hst
      have HG2 := Lib.hid (grown_trans HG.out (grown_setDm wr g (k * 3) ⟨(K : Int), (K : Int) + 1, (K : Int) + 1 + 1⟩))
      rw [hKi]
      generalize dmOf (markToDm q t k) k = z at hin
      obtain ⟨z0, z1, z2⟩ := hin
      clear hst hK hKi hkt ho HG
      go_wp2_with fail
      clear z0 z1 z2 hfz
      go_roundw
      case rel => exact ⟨k + 1, by omega, by go_num, by rw [HNEXT.out], HST, HG2⟩
      case measure => simp [intOf]; omega
    · have hkn : k = n := by omega
      subst hkn
      go_wp2_with fail
      go_ret
      exact ⟨by congr 3, by have h := ho.out; rw [← HL.out, markToDm_all] at h; rw [HL.out] at h; exact h, HG.out⟩
/-- laws.markDemandS of a slice of the call's own, a nil one too. -/
theorem markdms_any (ao : Option Addr) (n cap base : Nat) (t : List Dm) (q : Int) (w : World) (hl : t.length = n) (ho : OwnDm 38 w base (.slice ao n cap) t) (hn : n ≤ 4194304) (hq0 : 1 ≤ q) (hq1 : q ≤ 16777216) :
    Calls Try.prog 36 #[.slice ao n cap, .int .i64 q] w fun e w' => e = .returned (.int .i64 (q + ((3 * n : Nat) : Int))) ∧ OwnDm 38 w' base (.slice ao n cap) (marksDm q n) ∧ w.grownBy w' (Value.ownBlock (.slice ao n cap)) := by
  obtain ⟨ao', cap', e, -, -, -, hcase⟩ := ho.form
  rw [hl] at e
  cases e
  rcases hcase with hnil | ⟨g, rfl, -, -⟩
  · simp only [Value.slice.injEq] at hnil
    obtain ⟨rfl, rfl, rfl⟩ := hnil
    clear ho
    go_enter Try.func36, Try.ntmps36
    go_wp2
    refine wp_loop_rounds 1 ?_
    rw [rounds_succ]
    go_wp2
    go_ret
    exact ⟨ret_int (by simp), OwnDm.nil_, World.grownBy.refl _ _⟩
  · exact markdms_row g n cap base t q w hl ho hn hq0 hq1
set_option maxHeartbeats 4000000 in
set_option maxRecDepth 100000 in
/-- laws.heldDemandS of marks. -/
theorem helddms_yes (ao : Option Addr) (n cap : Nat) (q : Int) (w : World) (hr : RdDm w ao n (marksDm q n)) (hn : n ≤ 4194304) (hq0 : 1 ≤ q) (hq1 : q ≤ 16777216) :
    Calls Try.prog 45 #[.slice ao n cap, .int .i64 q] w fun e w' => e = .returned (.int .i64 (q + ((3 * n : Nat) : Int))) ∧ Below w.heap.size w w' := by
  have HR := Lib.hid hr; clear hr
  go_enter Try.func45, Try.ntmps45
  go_wp2_with fail
  go_loopw [1, 5] (fun v i wr => ∃ k : Nat, k ≤ n ∧ i = .int .i64 k ∧ v = .int .i64 (q + 3 * k) ∧ Hid (Below w.heap.size w wr)) (fun _ i _ => n - (intOf i).toNat)
  case atStart => exact ⟨0, Nat.zero_le _, rfl, by simp, Below.refl _ _⟩
  case round =>
    obtain ⟨k, hk, rfl, rfl, HB⟩ := hrel
    by_cases hlt : k < n
    · obtain ⟨g, off, rfl, hg, hx⟩ := HR.out.at hlt
      rw [marksDm_at hlt] at hx
      replace hx := hx.below HB.out hg
      obtain ⟨K, hK⟩ : ∃ K : Nat, K = (q + 3 * k).toNat := ⟨_, rfl⟩
      have hKi : q + 3 * (k : Int) = (K : Int) := by omega
      have hK0 : 0 < K := by omega
      have hK1 : K ≤ 67108864 := by omega
      have HNEXT := Lib.hid (show q + 3 * ((k + 1 : Nat) : Int) = (K : Int) + 1 + 1 + 1 from by omega)
      rw [mkDm_eq hKi] at hx
      rw [hKi]
      obtain ⟨h0, h1, h2⟩ := hx
      clear hK hKi hg
      have n0 : ((K : Int) != (K : Int)) = false := by simp
      go_wp2_with fail
      clear h0 h1 h2 n0
      go_roundw
      case rel => exact ⟨k + 1, by omega, by go_num, by rw [HNEXT.out], HB⟩
      case measure => simp [intOf]; omega
    · have hkn : k = n := by omega
      subst hkn
      go_wp2_with fail
      go_ret
      exact ⟨by congr 3, HB.out⟩
end Go.Proofs.Ytbbodgeoenjdkaa
