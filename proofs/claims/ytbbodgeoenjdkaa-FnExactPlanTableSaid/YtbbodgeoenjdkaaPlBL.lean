/-
  The laws' functions on Booking: made, measured, compared, marked, found again.
-/
import Derived.Test.YtbbodgeoenjdkaaPlB
namespace Go.Proofs.Ytbbodgeoenjdkaa
open Go.RowKit

theorem info_bk : (Try.prog.info? 31).map (fun i => (i.zero, i.size, i.bytes)) = some (some (bkVal Bk.zero), 2, 16) := by kernel_rfl
theorem tobk_any (x : Bk) (w : World) : Calls Try.prog 69 #[bkVal x] w fun e w' => e = .returned (bkVal x) ∧ Below w.heap.size w w' := by
  unfold bkVal
  go_enter Try.func69, Try.ntmps69
  go_wp2
  exact bodyPost_ret (v := .agg #[.int .i64 x.slot, .int .i64 x.phase]) (by simp [results, Try.results69, go_sem]) rfl ⟨rfl, (((Below.refl _ _).alloc (Nat.le_refl _) _).alloc (by simp) _).alloc (by simp; omega) _⟩
def fillBk (t : List Bk) (k : Nat) : List Bk := t.take k ++ List.replicate (t.length - k) Bk.zero
theorem fillBk_len (t : List Bk) (k : Nat) (hk : k ≤ t.length) : (fillBk t k).length = t.length := by
  unfold fillBk; rw [List.length_append, List.length_take, List.length_replicate]; omega
theorem fillBk_zero (t : List Bk) : fillBk t 0 = List.replicate t.length Bk.zero := by simp [fillBk]
theorem fillBk_all (t : List Bk) : fillBk t t.length = t := by simp [fillBk]
theorem fillBk_succ (t : List Bk) (k : Nat) (hk : k < t.length) : (fillBk t k).set k (bkOf t k) = fillBk t (k + 1) := by
  have hm : min k t.length = k := by omega
  unfold fillBk
  rw [bkOf_get hk, List.take_succ_eq_append_getElem hk, List.set_append_right _ _ (by rw [List.length_take]; omega)]
  rw [show t.length - k = (t.length - (k + 1)) + 1 from by omega, List.replicate_succ, List.length_take, hm, Nat.sub_self, List.set_cons_zero]
  rw [List.append_assoc]; rfl
set_option maxHeartbeats 1000000 in
set_option maxRecDepth 100000 in
/-- laws.toBookingS: a copy in new memory. -/
theorem tobks_any (ao : Option Addr) (n cap : Nat) (t : List Bk) (w : World) (hr : RdBk w ao n t) (hn : n ≤ 1048576) :
    Calls Try.prog 40 #[.slice ao n cap] w (MakesBk 31 w t) := by
  have HL := Lib.hid hr.len
  have HR := Lib.hid hr; clear hr
  go_enter Try.func40, Try.ntmps40
  go_wp2_with (at_make; refine make_bk _ rfl _ _ rfl w.heap.size Try.underlying27 info_bk _ _ _ _ n rfl rfl rfl rfl (by omega) (Nat.le_refl _) ?_; intro w1 o1 b1)
  have o1' : OwnBk 31 w1 w.heap.size (.slice (some ⟨w.heap.size, 0, none⟩) n n) (fillBk t 0) := by rw [fillBk_zero, HL.out]; exact o1
  clear o1
  go_loopw [4] (fun i wr => ∃ k : Nat, k ≤ n ∧ i = .int .i64 k ∧ OwnBk 31 wr w.heap.size (.slice (some ⟨w.heap.size, 0, none⟩) n n) (fillBk t k) ∧ Below w.heap.size w wr) (fun i _ => n - (intOf i).toNat)
  case atStart => exact ⟨0, Nat.zero_le _, rfl, o1', b1⟩
  case round =>
    clear o1' b1
    obtain ⟨k, hk, rfl, hown, hb⟩ := hrel
    by_cases hlt : k < n
    · have hkt : k < t.length := by rw [HL.out]; exact hlt
      obtain ⟨g, off, rfl, hg, hx⟩ := HR.out.at hlt
      replace hx := hx.below hb hg
      have hfl := fillBk_len t k (by omega)
      have hsucc := fillBk_succ t k hkt
      obtain ⟨x, hxe⟩ : ∃ x, x = bkOf t k := ⟨_, rfl⟩
      rw [← hxe] at hx hsucc
      have HSUCC := Lib.hid hsucc
      have HFL := Lib.hid (hfl.trans HL.out)
      have HOWN := Lib.hid hown; have HB := Lib.hid hb
      have HT := Lib.hid (fun W => tobk_any x W)
      unfold bkVal at HT
      clear hsucc hfl hown hb hxe hkt
      obtain ⟨h0, h1⟩ := hx
      go_wp2_with fail
      refine (HT.out _).mono ?_
      rintro e w2 ⟨rfl, b2⟩
      clear h0 h1
      have HB2 := Lib.hid (below_two HB.out b2)
      obtain ⟨hz, fz, hst, hbst⟩ := (HOWN.out.below b2).store HFL.out hlt x
      rw [HSUCC.out] at hst
      have HST := Lib.hid hst; have HBST := Lib.hid (HB2.out.trans hbst); clear hst hbst b2
      obtain ⟨z0, z1⟩ := hz
      generalize bkOf (fillBk t k) k = z at z0 z1
      go_wp2_with fail
      clear z0 z1 fz
      go_roundw
      case rel => exact ⟨k + 1, by omega, by go_num, HST.out, HBST.out⟩
      case measure => simp [intOf]; omega
    · have hkn : k = n := by omega
      subst hkn
      have HO := Lib.hid hown; clear hown
      go_wp2_with fail
      go_ret
      refine ⟨_, rfl, ?_, hb⟩
      have h := HO.out
      rw [← HL.out, fillBk_all] at h
      have hl := HL.out
      subst hl
      exact h
/-! ### measured -/
def szBk (t : List Bk) (m : Int) : Int := if m < t.length then -1 else m - t.length
theorem szBk_ok {t : List Bk} {m : Int} (h : 0 ≤ szBk t m) : (t.length : Int) ≤ m := by
  unfold szBk at h
  split at h
  · omega
  · omega
theorem szBk_le (t : List Bk) {m : Int} (h : 0 ≤ m) : szBk t m ≤ m := by
  unfold szBk
  split <;> omega
theorem szbks_any (ao : Option Addr) (n cap : Nat) (t : List Bk) (M : Int) (hM0 : 0 ≤ M) (hM1 : M ≤ 1048576) (w : World) (hl : t.length = n) (hn : n ≤ 9223372036854775807) :
    Calls Try.prog 39 #[.slice ao n cap, .int .i64 M] w fun e w' => e = .returned (.int .i64 (szBk t M)) ∧ w = w' := by
  have HL := Lib.hid hl
  clear hl
  have hw : IntKind.i64.wrap (M - (n : Int)) = M - n := by rw [IntKind.wrap_i64]; omega
  by_cases hbig : M < n
  · have HF := Lib.hid (show szBk t M = -1 from by unfold szBk; rw [if_pos (by rw [HL.out]; exact hbig)])
    have hq : M - (n : Int) < 0 := by omega
    go_enter Try.func39, Try.ntmps39
    go_wp2_with fail
    go_ret
    rw [HF.out]
    exact ⟨rfl, rfl⟩
  have hq : ¬ M - (n : Int) < 0 := by omega
  have HF := Lib.hid (show szBk t M = M - n from by unfold szBk; rw [if_neg (by rw [HL.out]; exact hbig), HL.out])
  go_enter Try.func39, Try.ntmps39
  go_wp2_with fail
  go_ret
  rw [HF.out]
  exact ⟨rfl, rfl⟩
/-! ### compared -/
theorem eqbk_any (x : Bk) (w : World) : Calls Try.prog 68 #[bkVal x, bkVal x] w fun e w' => e = .returned (.bool true) ∧ Below w.heap.size w w' := by
  have h0 : (x.slot != x.slot) = false := by simp
  have h1 : (x.phase != x.phase) = false := by simp
  unfold bkVal
  go_enter Try.func68, Try.ntmps68
  go_wp2
  go_ret
  exact ⟨rfl, ((Below.refl _ _).alloc (Nat.le_refl _) _).alloc (by simp) _⟩
set_option maxHeartbeats 1000000 in
set_option maxRecDepth 100000 in
set_option linter.unusedSimpArgs false in
/-- laws.eqBookingS of one list read twice. -/
theorem eqbks_yes (ao bo : Option Addr) (n c d : Nat) (t : List Bk) (w : World) (hx : RdBk w ao n t) (hy : RdBk w bo n t) (hn : n ≤ 9223372036854775807) (hc : n ≤ c) (hd : n ≤ d) :
    Calls Try.prog 35 #[.slice ao n c, .slice bo n d] w fun e w' => e = .returned (.bool true) ∧ Below w.heap.size w w' := by
  have HX := Lib.hid hx; have HY := Lib.hid hy; clear hx hy
  have hne : ((n : Int) != (n : Int)) = false := by simp
  go_enter Try.func35, Try.ntmps35
  go_wp2_with fail
  clear hne
  go_loopw [5] (fun i wr => ∃ k : Nat, k ≤ n ∧ i = .int .i64 k ∧ Below w.heap.size w wr) (fun i _ => n - (intOf i).toNat)
  case atStart => exact ⟨0, Nat.zero_le _, rfl, Below.refl _ _⟩
  case round =>
    obtain ⟨k, hk, rfl, hb⟩ := hrel
    by_cases hlt : k < n
    · obtain ⟨g, off, rfl, hg, hx⟩ := HX.out.at hlt
      obtain ⟨g', off', rfl, hg', hy⟩ := HY.out.at hlt
      replace hx := hx.below hb hg
      replace hy := hy.below hb hg'
      have HB := Lib.hid hb; clear hb
      obtain ⟨x, hxe⟩ : ∃ x, x = bkOf t k := ⟨_, rfl⟩
      rw [← hxe] at hx hy
      clear hxe
      have HXW := Lib.hid (fun W (hW : Below wr.heap.size wr W) => (hx.below hW hx.lt).all)
      have HYW := Lib.hid (fun W (hW : Below wr.heap.size wr W) => (hy.below hW hy.lt).all)
      have HD := Lib.hid (show Below wr.heap.size wr wr.drew from Below.drew (Below.refl _ _))
      have HCALL := Lib.hid (fun W => eqbk_any x W)
      unfold bkVal at HCALL
      clear hx hy hg hg'
      go_upto_region 6 with fail
      refine wp_region_held_drew (S := fun w' => (w'.cell? ⟨g, off + k * 2, none⟩ = some (Value.int .i64 x.slot) ∧ w'.cell? ⟨g, off + k * 2 + 1, none⟩ = some (Value.int .i64 x.phase)) ∧ (w'.cell? ⟨g', off' + k * 2, none⟩ = some (Value.int .i64 x.slot) ∧ w'.cell? ⟨g', off' + k * 2 + 1, none⟩ = some (Value.int .i64 x.phase))) (by kernel_rfl) (⟨HXW.out _ HD.out, HYW.out _ HD.out⟩) (fun hHeld => ?_)
      generalize wr.drew = w1 at HD hHeld ⊢
      refine wpAnyH_take (i := 0) (v := ?_) rfl (by kernel_rfl) (by kernel_rfl) (by kernel_rfl) (fun _ _ _ h => h) (Or.inl ⟨by rfl, ?_⟩) (by assumption) ?_
      rotate_left
      · (intro w hSw; (try dsimp only at hSw); go_simp; (try with_reducible rfl))
      try simp only [List.getElem_toArray, List.getElem_cons_succ, List.getElem_cons_zero, Act.put, List.setIfInBounds_toArray, List.set_cons_zero, List.set_cons_succ]
      refine wpAnyH_take (i := 1) (v := ?_) rfl (by kernel_rfl) (by kernel_rfl) (by kernel_rfl) (fun _ _ _ h => h) (Or.inl ⟨by rfl, ?_⟩) (by assumption) ?_
      rotate_left
      · (intro w hSw; (try dsimp only at hSw); go_simp; (try with_reducible rfl))
      try simp only [List.getElem_toArray, List.getElem_cons_succ, List.getElem_cons_zero, Act.put, List.setIfInBounds_toArray, List.set_cons_zero, List.set_cons_succ]
      refine wpAnyH_take (i := 2) (v := ?_) rfl (by kernel_rfl) (by kernel_rfl) (by kernel_rfl) (fun _ _ _ h => h) (Or.inl ⟨by rfl, ?_⟩) (by assumption) ?_
      rotate_left
      · (intro w hSw; (try dsimp only at hSw); go_simp; (try with_reducible rfl))
      try simp only [List.getElem_toArray, List.getElem_cons_succ, List.getElem_cons_zero, Act.put, List.setIfInBounds_toArray, List.set_cons_zero, List.set_cons_succ]
      refine wpAnyH_take (i := 3) (v := ?_) rfl (by kernel_rfl) (by kernel_rfl) (by kernel_rfl) (fun _ _ _ h => h) (Or.inl ⟨by rfl, ?_⟩) (by assumption) ?_
      rotate_left
      · (intro w hSw; (try dsimp only at hSw); go_simp; (try with_reducible rfl))
      try simp only [List.getElem_toArray, List.getElem_cons_succ, List.getElem_cons_zero, Act.put, List.setIfInBounds_toArray, List.set_cons_zero, List.set_cons_succ]
      refine wpAnyH_take (i := 4) (v := ?_) rfl (by kernel_rfl) (by kernel_rfl) (by kernel_rfl) (fun _ _ _ h => h) (Or.inl ⟨by rfl, ?_⟩) (by assumption) ?_
      rotate_left
      · (intro w hSw; (try dsimp only at hSw); go_simp; (try with_reducible rfl))
      try simp only [List.getElem_toArray, List.getElem_cons_succ, List.getElem_cons_zero, Act.put, List.setIfInBounds_toArray, List.set_cons_zero, List.set_cons_succ]
      refine wpAnyH_take (i := 5) (v := ?_) rfl (by kernel_rfl) (by kernel_rfl) (by kernel_rfl) (fun _ _ _ h => h) (Or.inl ⟨by rfl, ?_⟩) (by assumption) ?_
      rotate_left
      · (intro w hSw; (try dsimp only at hSw); go_simp; (try with_reducible rfl))
      try simp only [List.getElem_toArray, List.getElem_cons_succ, List.getElem_cons_zero, Act.put, List.setIfInBounds_toArray, List.set_cons_zero, List.set_cons_succ]
      refine wpAnyH_take (i := 6) (v := ?_) rfl (by kernel_rfl) (by kernel_rfl) (by kernel_rfl) (fun _ _ _ h => h) (Or.inl ⟨by rfl, ?_⟩) (by assumption) ?_
      rotate_left
      · (intro w hSw; (try dsimp only at hSw); go_simp; (try with_reducible rfl))
      try simp only [List.getElem_toArray, List.getElem_cons_succ, List.getElem_cons_zero, Act.put, List.setIfInBounds_toArray, List.set_cons_zero, List.set_cons_succ]
      refine wpAnyH_take (i := 7) (v := ?_) rfl (by kernel_rfl) (by kernel_rfl) (by kernel_rfl) (fun _ _ _ h => h) (Or.inl ⟨by rfl, ?_⟩) (by assumption) ?_
      rotate_left
      · (intro w hSw; (try dsimp only at hSw); go_simp; (try with_reducible rfl))
      try simp only [List.getElem_toArray, List.getElem_cons_succ, List.getElem_cons_zero, Act.put, List.setIfInBounds_toArray, List.set_cons_zero, List.set_cons_succ]
      refine wpAnyH_ready (rs := [8]) (by kernel_rfl) (by simp) (AllReadyH.cons rfl (fun K hK => ?_) AllReadyH.nil)
      go_simp
      refine (HCALL.out _).mono ?_
      rintro e w2 ⟨rfl, b2⟩
      have HD2 := Lib.hid (below_two HD.out b2); clear b2
      go_wp2_with fail
      refine hK.out _ _ ?_ (fun hHeld => ?_)
      · exact ⟨HXW.out _ HD2.out, HYW.out _ HD2.out⟩
      clear hK K
      try simp only [List.getElem_toArray, List.getElem_cons_succ, List.getElem_cons_zero, Act.put, List.setIfInBounds_toArray, List.set_cons_zero, List.set_cons_succ]
      refine wpAnyH_take (i := 9) (v := ?_) rfl (by kernel_rfl) (by kernel_rfl) (by kernel_rfl) (fun _ _ _ h => h) (Or.inl ⟨by rfl, ?_⟩) (by assumption) ?_
      rotate_left
      · (intro w hSw; (try dsimp only at hSw); go_simp; (try with_reducible rfl))
      try simp only [List.getElem_toArray, List.getElem_cons_succ, List.getElem_cons_zero, Act.put, List.setIfInBounds_toArray, List.set_cons_zero, List.set_cons_succ]
      refine wpAnyH_done (by kernel_rfl) ?_ _
      have HBE := Lib.hid (below_two HB.out HD2.out)
      go_wp2_with fail
      go_roundw
      case rel => exact ⟨k + 1, by omega, by go_num, HBE.out⟩
      case measure => simp [intOf]; omega
    · have hkn : k = n := by omega
      subst hkn
      have HB := Lib.hid hb; clear hb
      go_wp2_with fail
      go_ret
      exact ⟨rfl, HB.out⟩

/-! ### marked -/
def mkBk (q : Int) (k : Nat) : Bk := ⟨q + 2 * k, q + 2 * k + 1⟩
def marksBk (q : Int) (n : Nat) : List Bk := (List.range n).map (mkBk q)
theorem marksBk_len (q : Int) (n : Nat) : (marksBk q n).length = n := by simp [marksBk]
theorem marksBk_at {q : Int} {n k : Nat} (h : k < n) : bkOf (marksBk q n) k = mkBk q k := by
  rw [bkOf_get (by rw [marksBk_len]; exact h)]
  simp [marksBk]
def markToBk (q : Int) (t : List Bk) (k : Nat) : List Bk := marksBk q k ++ t.drop k
theorem markToBk_zero (q : Int) (t : List Bk) : markToBk q t 0 = t := by simp [markToBk, marksBk]
theorem markToBk_all (q : Int) (t : List Bk) : markToBk q t t.length = marksBk q t.length := by simp [markToBk]
theorem markToBk_len (q : Int) (t : List Bk) (k : Nat) (h : k ≤ t.length) : (markToBk q t k).length = t.length := by
  unfold markToBk; rw [List.length_append, marksBk_len, List.length_drop]; omega
theorem markToBk_succ (q : Int) (t : List Bk) (k : Nat) (h : k < t.length) : (markToBk q t k).set k (mkBk q k) = markToBk q t (k + 1) := by
  unfold markToBk
  rw [List.set_append_right _ _ (by rw [marksBk_len]; exact Nat.le_refl _), marksBk_len, Nat.sub_self, List.drop_eq_getElem_cons h, List.set_cons_zero]
  rw [show marksBk q (k + 1) = marksBk q k ++ [mkBk q k] from by simp [marksBk, List.range_succ]]
  simp
theorem mkBk_eq {q : Int} {k K : Nat} (h : q + 2 * (k : Int) = (K : Int)) : mkBk q k = ⟨(K : Int), (K : Int) + 1⟩ := by
  unfold mkBk
  rw [h]
theorem grown_setBk (w : World) (g off : Nat) (x : Bk) : w.grownBy (setBk w g off x) (some g) := by
  unfold setBk
  exact grown_trans (grown_set w g off _) (grown_set _ g _ _)
set_option maxHeartbeats 4000000 in
set_option maxRecDepth 100000 in
theorem markbks_row (g n cap base : Nat) (t : List Bk) (q : Int) (w : World) (hl : t.length = n) (ho : OwnBk 31 w base (.slice (some ⟨g, 0, none⟩) n cap) t) (hn : n ≤ 4194304) (hq0 : 1 ≤ q) (hq1 : q ≤ 16777216) :
    Calls Try.prog 37 #[.slice (some ⟨g, 0, none⟩) n cap, .int .i64 q] w fun e w' => e = .returned (.int .i64 (q + ((2 * n : Nat) : Int))) ∧ OwnBk 31 w' base (.slice (some ⟨g, 0, none⟩) n cap) (marksBk q n) ∧ w.grownBy w' (some g) := by
  have HL := Lib.hid hl
  have ho' : OwnBk 31 w base (.slice (some ⟨g, 0, none⟩) n cap) (markToBk q t 0) := by rw [markToBk_zero]; exact ho
  have HO := Lib.hid ho'; clear ho ho'
  go_enter Try.func37, Try.ntmps37
  go_wp2_with fail
  go_loopw [1, 5] (fun v i wr => ∃ k : Nat, k ≤ n ∧ i = .int .i64 k ∧ v = .int .i64 (q + 2 * k) ∧ Hid (OwnBk 31 wr base (.slice (some ⟨g, 0, none⟩) n cap) (markToBk q t k)) ∧ Hid (w.grownBy wr (some g))) (fun _ i _ => n - (intOf i).toNat)
  case atStart => exact ⟨0, Nat.zero_le _, rfl, by simp, HO.out, World.grownBy.refl _ _⟩
  case round =>
    clear HO
    obtain ⟨k, hk, rfl, rfl, ho, HG⟩ := hrel
    by_cases hlt : k < n
    · have hkt : k < t.length := by rw [HL.out]; exact hlt
      obtain ⟨K, hK⟩ : ∃ K : Nat, K = (q + 2 * k).toNat := ⟨_, rfl⟩
      have hKi : q + 2 * (k : Int) = (K : Int) := by omega
      have hK0 : 0 < K := by omega
      have hK1 : K ≤ 67108864 := by omega
      have HNEXT := Lib.hid (show q + 2 * ((k + 1 : Nat) : Int) = (K : Int) + 1 + 1 from by omega)
      obtain ⟨hin, hfz, hst, -⟩ := ho.out.store ((markToBk_len q t k (by omega)).trans HL.out) hlt (mkBk q k)
      rw [markToBk_succ q t k hkt, mkBk_eq hKi] at hst
      have HST := Lib.hid hst
      have HG2 := Lib.hid (grown_trans HG.out (grown_setBk wr g (k * 2) ⟨(K : Int), (K : Int) + 1⟩))
      rw [hKi]
      generalize bkOf (markToBk q t k) k = z at hin
      obtain ⟨z0, z1⟩ := hin
      clear hst hK hKi hkt ho HG
      go_wp2_with fail
      clear z0 z1 hfz
      go_roundw
      case rel => exact ⟨k + 1, by omega, by go_num, by rw [HNEXT.out], HST, HG2⟩
      case measure => simp [intOf]; omega
    · have hkn : k = n := by omega
      subst hkn
      go_wp2_with fail
      go_ret
      exact ⟨by congr 3, by have h := ho.out; rw [← HL.out, markToBk_all] at h; rw [HL.out] at h; exact h, HG.out⟩
/-- laws.markBookingS of a slice of the call's own, a nil one too. -/
theorem markbks_any (ao : Option Addr) (n cap base : Nat) (t : List Bk) (q : Int) (w : World) (hl : t.length = n) (ho : OwnBk 31 w base (.slice ao n cap) t) (hn : n ≤ 4194304) (hq0 : 1 ≤ q) (hq1 : q ≤ 16777216) :
    Calls Try.prog 37 #[.slice ao n cap, .int .i64 q] w fun e w' => e = .returned (.int .i64 (q + ((2 * n : Nat) : Int))) ∧ OwnBk 31 w' base (.slice ao n cap) (marksBk q n) ∧ w.grownBy w' (Value.ownBlock (.slice ao n cap)) := by
  obtain ⟨ao', cap', e, -, -, -, hcase⟩ := ho.form
  rw [hl] at e
  cases e
  rcases hcase with hnil | ⟨g, rfl, -, -⟩
  · simp only [Value.slice.injEq] at hnil
    obtain ⟨rfl, rfl, rfl⟩ := hnil
    clear ho
    go_enter Try.func37, Try.ntmps37
    go_wp2
    refine wp_loop_rounds 1 ?_
    rw [rounds_succ]
    go_wp2
    go_ret
    exact ⟨ret_int (by simp), OwnBk.nil_, World.grownBy.refl _ _⟩
  · exact markbks_row g n cap base t q w hl ho hn hq0 hq1
set_option maxHeartbeats 4000000 in
set_option maxRecDepth 100000 in
/-- laws.heldBookingS of marks. -/
theorem heldbks_yes (ao : Option Addr) (n cap : Nat) (q : Int) (w : World) (hr : RdBk w ao n (marksBk q n)) (hn : n ≤ 4194304) (hq0 : 1 ≤ q) (hq1 : q ≤ 16777216) :
    Calls Try.prog 38 #[.slice ao n cap, .int .i64 q] w fun e w' => e = .returned (.int .i64 (q + ((2 * n : Nat) : Int))) ∧ Below w.heap.size w w' := by
  have HR := Lib.hid hr; clear hr
  go_enter Try.func38, Try.ntmps38
  go_wp2_with fail
  go_loopw [1, 5] (fun v i wr => ∃ k : Nat, k ≤ n ∧ i = .int .i64 k ∧ v = .int .i64 (q + 2 * k) ∧ Hid (Below w.heap.size w wr)) (fun _ i _ => n - (intOf i).toNat)
  case atStart => exact ⟨0, Nat.zero_le _, rfl, by simp, Below.refl _ _⟩
  case round =>
    obtain ⟨k, hk, rfl, rfl, HB⟩ := hrel
    by_cases hlt : k < n
    · obtain ⟨g, off, rfl, hg, hx⟩ := HR.out.at hlt
      rw [marksBk_at hlt] at hx
      replace hx := hx.below HB.out hg
      obtain ⟨K, hK⟩ : ∃ K : Nat, K = (q + 2 * k).toNat := ⟨_, rfl⟩
      have hKi : q + 2 * (k : Int) = (K : Int) := by omega
      have hK0 : 0 < K := by omega
      have hK1 : K ≤ 67108864 := by omega
      have HNEXT := Lib.hid (show q + 2 * ((k + 1 : Nat) : Int) = (K : Int) + 1 + 1 from by omega)
      rw [mkBk_eq hKi] at hx
      rw [hKi]
      obtain ⟨h0, h1⟩ := hx
      clear hK hKi hg
      have n0 : ((K : Int) != (K : Int)) = false := by simp
      go_wp2_with fail
      clear h0 h1 n0
      go_roundw
      case rel => exact ⟨k + 1, by omega, by go_num, by rw [HNEXT.out], HB⟩
      case measure => simp [intOf]; omega
    · have hkn : k = n := by omega
      subst hkn
      go_wp2_with fail
      go_ret
      exact ⟨by congr 3, HB.out⟩
end Go.Proofs.Ytbbodgeoenjdkaa
