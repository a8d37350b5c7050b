/-
  Chapter 10: the laws' functions on slices of entries: made, measured, compared.
-/
import Derived.Test.YtpghbbpidlfelaaNv
namespace Go.Proofs.Ytpghbbpidlfelaa
open Go.RowKit

theorem infoNd : (Try.prog.info? 41).map (fun i => (i.zero, i.size, i.bytes)) = some (some (ndVal Nd.zero), 4, 40) := by kernel_rfl
def fillN (t : List Nd) (k : Nat) : List Nd := t.take k ++ List.replicate (t.length - k) Nd.zero
theorem fillN_len (t : List Nd) (k : Nat) (hk : k ≤ t.length) : (fillN t k).length = t.length := by
  unfold fillN; rw [List.length_append, List.length_take, List.length_replicate]; omega
theorem fillN_zero (t : List Nd) : fillN t 0 = List.replicate t.length Nd.zero := by simp [fillN]
theorem fillN_all (t : List Nd) : fillN t t.length = t := by simp [fillN]
theorem fillN_succ (t : List Nd) (k : Nat) (hk : k < t.length) : (fillN t k).set k (ndOf t k) = fillN t (k + 1) := by
  have hm : min k t.length = k := by omega
  unfold fillN
  rw [ndOf_getD t k hk, List.set_append_right _ _ (by rw [List.length_take]; omega)]
  rw [show t.length - k = (t.length - (k + 1)) + 1 from by omega, List.replicate_succ, List.length_take, hm, Nat.sub_self, List.set_cons_zero]
  simp
set_option maxHeartbeats 1000000 in
set_option maxRecDepth 100000 in
/-- laws.toNodeInfoS: a copy in new memory. -/
theorem toNodes_any (ao : Option Addr) (n cap : Nat) (t : List Nd) (w : World) (hr : RdN w ao n t) (hn : n ≤ 1048576) :
    Calls Try.prog 37 #[.slice ao n cap] w (MakesN 41 w t) := by
  have HL := Lib.hid hr.len
  have HR := Lib.hid hr; clear hr
  go_enter Try.func37, Try.ntmps37
  go_wp2_with (at_make; refine make_nd _ rfl _ _ rfl w.heap.size Try.underlying24 infoNd _ _ _ _ n rfl rfl rfl rfl (by omega) (Nat.le_refl _) ?_; intro w1 o1 b1)
  have o1' : OwnN 41 w1 w.heap.size (.slice (some ⟨w.heap.size, 0, none⟩) n n) (fillN t 0) := by rw [fillN_zero, HL.out]; exact o1
  clear o1
  go_loopw [4] (fun i wr => ∃ k : Nat, k ≤ n ∧ i = .int .i64 k ∧ OwnN 41 wr w.heap.size (.slice (some ⟨w.heap.size, 0, none⟩) n n) (fillN t k) ∧ Below w.heap.size w wr) (fun i _ => n - (intOf i).toNat)
  case atStart => exact ⟨0, Nat.zero_le _, rfl, o1', b1⟩
  case round =>
    clear o1' b1
    obtain ⟨k, hk, rfl, hown, hb⟩ := hrel
    by_cases hlt : k < n
    · have hkt : k < t.length := by rw [HL.out]; exact hlt
      obtain ⟨g, off, rfl, hg, hx⟩ := HR.out.at hlt
      replace hx := hx.below hb hg
      have hfl := fillN_len t k (by omega)
      have hsucc := fillN_succ t k hkt
      obtain ⟨x, hxe⟩ : ∃ x, x = ndOf t k := ⟨_, rfl⟩
      rw [← hxe] at hx hsucc
      have HSUCC := Lib.hid hsucc
      have HFL := Lib.hid (hfl.trans HL.out)
      have HOWN := Lib.hid hown; have HB := Lib.hid hb
      clear hsucc hfl hown hb hxe hkt
      obtain ⟨h0, h1, h2, h3⟩ := hx
      go_wp2_with fail
      refine (toNode_any x _).mono ?_
      rintro e w2 ⟨rfl, b2⟩
      clear h0 h1 h2 h3
      unfold ndVal
      have HB2 := Lib.hid (below_two HB.out b2)
      obtain ⟨hz, ⟨f0, f1, f2, f3⟩, hst, hbst⟩ := (HOWN.out.below b2).store HFL.out hlt x
      rw [HSUCC.out] at hst
      have HST := Lib.hid hst; have HBST := Lib.hid (HB2.out.trans hbst); clear hst hbst b2
      obtain ⟨z0, z1, z2, z3⟩ := hz
      generalize ndOf (fillN t k) k = z at z0 z1 z2 z3
      go_wp2_with fail
      clear z0 z1 z2 z3 f0 f1 f2 f3
      go_roundw
      case rel => exact ⟨k + 1, by omega, by go_num, HST.out, HBST.out⟩
      case measure => simp [intOf]; omega
    · have hkn : k = n := by omega
      subst hkn
      have HO := Lib.hid hown; clear hown
      go_wp2_with fail
      go_ret
      refine ⟨_, rfl, ?_, hb⟩
      have h := HO.out
      rw [← HL.out, fillN_all] at h
      have hl := HL.out
      subst hl
      exact h

/-! ### measured -/
def szGo : List Nd → Int → Int
  | [], m => m
  | x :: r, m => if m < x.name.size then -1 else szGo r (m - x.name.size)
def szS (t : List Nd) (m : Int) : Int := if m < t.length then -1 else szGo t (m - t.length)
theorem szGo_drop {t : List Nd} {k : Nat} (h : k < t.length) (m : Int) : szGo (t.drop k) m = if m < (ndOf t k).name.size then -1 else szGo (t.drop (k + 1)) (m - (ndOf t k).name.size) := by
  rw [List.drop_eq_getElem_cons h, szGo, ndOf_get h]
theorem szGo_names : ∀ (t : List Nd) (m : Int), 0 ≤ szGo t m → m ≤ 1048576 → smallN t
  | [], _, _, _ => fun i h => by simp at h
  | x :: r, m, h, hm => by
    rw [szGo] at h
    split at h
    · omega
    · rename_i hc
      have h1 := szGo_names r (m - x.name.size) h (by omega)
      intro i hi
      cases i with
      | zero => show (ndOf (x :: r) 0).name.size ≤ _; rw [show ndOf (x :: r) 0 = x from by simp [ndOf]]; omega
      | succ i => rw [show ndOf (x :: r) (i + 1) = ndOf r i from by simp [ndOf]]; exact h1 i (by simpa using hi)
theorem szS_ok {t : List Nd} (h : 0 ≤ szS t 1048576) : t.length ≤ 1048576 ∧ smallN t := by
  unfold szS at h
  split at h
  · omega
  · exact ⟨by omega, szGo_names _ _ h (by omega)⟩
theorem szGo_neg : ∀ (t : List Nd) (m : Int), 0 ≤ m → szGo t m = -1 ∨ (0 ≤ szGo t m ∧ szGo t m ≤ m)
  | [], m, h => .inr ⟨h, Int.le_refl _⟩
  | x :: r, m, h => by
    rw [szGo]
    split
    · exact .inl rfl
    · rcases szGo_neg r (m - x.name.size) (by omega) with h1 | h1
      · exact .inl h1
      · exact .inr ⟨h1.1, by omega⟩
theorem szS_neg (t : List Nd) : szS t 1048576 = -1 ∨ (0 ≤ szS t 1048576 ∧ szS t 1048576 ≤ 1048576) := by
  unfold szS
  split
  · exact .inl rfl
  · rcases szGo_neg t (1048576 - t.length) (by omega) with h1 | h1
    · exact .inl h1
    · exact .inr ⟨h1.1, by omega⟩
/-- laws.szNodeInfoS. -/
theorem szNodes_any (ao : Option Addr) (n cap : Nat) (t : List Nd) (w : World) (hr : RdN w ao n t) (hn : n ≤ 9223372036854775807) (hs : ∀ i, i < n → (ndOf t i).name.size ≤ 9223372036854775807) :
    Calls Try.prog 36 #[.slice ao n cap, .int .i64 1048576] w fun e w' => e = .returned (.int .i64 (szS t 1048576)) ∧ Below w.heap.size w w' := by
  have HL := Lib.hid hr.len
  have HR := Lib.hid hr; clear hr
  have HS := Lib.hid hs; clear hs
  by_cases hbig : (1048576 : Int) < n
  · have HF := Lib.hid (show szS t 1048576 = -1 from by unfold szS; rw [if_pos (by rw [HL.out]; exact hbig)])
    have hq : (1048576 : Int) - n < 0 := by omega
    have hw : IntKind.i64.wrap ((1048576 : Int) - n) = 1048576 - n := by rw [IntKind.wrap_i64]; omega
    go_enter Try.func36, Try.ntmps36
    go_wp2_with fail
    go_ret
    rw [HF.out]
    exact ⟨rfl, Below.refl _ _⟩
  have hq : ¬ (1048576 : Int) - n < 0 := by omega
  have hw : IntKind.i64.wrap ((1048576 : Int) - n) = 1048576 - n := by rw [IntKind.wrap_i64]; omega
  have HF := Lib.hid (show szS t 1048576 = szGo (t.drop 0) (1048576 - n) from by unfold szS; rw [if_neg (by rw [HL.out]; exact hbig), HL.out]; rfl)
  have hm0 : 0 ≤ (1048576 : Int) - n := by omega
  go_enter Try.func36, Try.ntmps36
  go_wp2_with fail
  clear hw
  go_loopw [1, 5] (fun l i wr => ∃ (k : Nat) (m : Int), k ≤ n ∧ i = .int .i64 k ∧ l = .int .i64 m ∧ 0 ≤ m ∧ m ≤ 1048576 ∧ Hid (szS t 1048576 = szGo (t.drop k) m) ∧ Below w.heap.size w wr) (fun _ i _ => n - (intOf i).toNat)
  case atStart => exact ⟨0, 1048576 - n, Nat.zero_le _, rfl, rfl, by omega, by omega, HF.out, Below.refl _ _⟩
  case round =>
    clear hq hm0 HF
    obtain ⟨k, m, hk, rfl, rfl, hm0, hm1, hsz, hb⟩ := hrel
    by_cases hlt : k < n
    · have hkt : k < t.length := by rw [HL.out]; exact hlt
      obtain ⟨g, off, rfl, hg, hx⟩ := HR.out.at hlt
      replace hx := hx.below hb hg
      have hss := HS.out k hlt
      have hdr := szGo_drop hkt m
      obtain ⟨x, hxe⟩ : ∃ x, x = ndOf t k := ⟨_, rfl⟩
      rw [← hxe] at hx hss hdr
      rw [← hsz.out] at hdr
      have hcall := fun W => szNode_any x m W hm0 hm1 (by omega)
      unfold ndVal at hcall
      have HCALL := Lib.hid hcall; have HDR := Lib.hid hdr; have HB := Lib.hid hb
      clear hcall hdr hxe hkt hb hsz
      obtain ⟨h0, h1, h2, h3⟩ := hx
      by_cases hc : m < x.name.size
      · have hif : (if m < (x.name.size : Int) then (-1 : Int) else m - (x.name.size : Int)) = -1 := if_pos hc
        have hF2 := HDR.out
        rw [if_pos hc] at hF2
        have HF2 := Lib.hid hF2; clear hF2
        go_wp2_with fail
        refine (HCALL.out _).mono ?_
        rintro e w2 ⟨rfl, b2⟩
        rw [hif]
        clear h0 h1 h2 h3
        go_wp2_with fail
        go_ret
        rw [HF2.out]
        exact ⟨rfl, below_two HB.out b2⟩
      · have hif : (if m < (x.name.size : Int) then (-1 : Int) else m - (x.name.size : Int)) = m - (x.name.size : Int) := if_neg hc
        have hF2 := HDR.out
        rw [if_neg hc] at hF2
        have HF2 := Lib.hid hF2; clear hF2
        go_wp2_with fail
        refine (HCALL.out _).mono ?_
        rintro e w2 ⟨rfl, b2⟩
        rw [hif]
        clear h0 h1 h2 h3 hif
        obtain ⟨m2, hm2⟩ : ∃ m2, m2 = m - (x.name.size : Int) := ⟨_, rfl⟩
        rw [← hm2] at HF2 ⊢
        have h20 : 0 ≤ m2 := by omega
        have h21 : m2 ≤ 1048576 := by omega
        have h22 : ¬ m2 < 0 := by omega
        clear hm2 hc
        go_wp2_with fail
        go_roundw
        case rel => exact ⟨k + 1, m2, by omega, by go_num, rfl, h20, h21, HF2.out, below_two HB.out b2⟩
        case measure => simp [intOf]; omega
    · have hkn : k = n := by omega
      subst hkn
      have HF2 := Lib.hid (show szS t 1048576 = m from by rw [hsz.out, List.drop_of_length_le (by rw [HL.out]; exact Nat.le_refl _)]; rfl)
      have HB := Lib.hid hb; clear hb
      go_wp2_with fail
      go_ret
      rw [HF2.out]
      exact ⟨rfl, HB.out⟩

set_option maxHeartbeats 1000000 in
set_option maxRecDepth 100000 in
set_option linter.unusedSimpArgs false in
/-- laws.eqNodeInfoS of one list read twice. -/
theorem eqNodes_yes (ao bo : Option Addr) (n c d : Nat) (t : List Nd) (w : World) (hx : RdN w ao n t) (hy : RdN w bo n t) (hn : n ≤ 9223372036854775807) (hc : n ≤ c) (hd : n ≤ d) :
    Calls Try.prog 38 #[.slice ao n c, .slice bo n d] w fun e w' => e = .returned (.bool true) ∧ Below w.heap.size w w' := by
  have HX := Lib.hid hx; have HY := Lib.hid hy; clear hx hy
  have hne : ((n : Int) != (n : Int)) = false := by simp
  go_enter Try.func38, Try.ntmps38
  go_wp2_with fail
  clear hne
  go_loopw [5] (fun i wr => ∃ k : Nat, k ≤ n ∧ i = .int .i64 k ∧ Below w.heap.size w wr) (fun i _ => n - (intOf i).toNat)
  case atStart => exact ⟨0, Nat.zero_le _, rfl, Below.refl _ _⟩
  case round =>
    obtain ⟨k, hk, rfl, hb⟩ := hrel
    by_cases hlt : k < n
    · obtain ⟨g, off, rfl, hg, hx⟩ := HX.out.at hlt
      obtain ⟨g', off', rfl, hg', hy⟩ := HY.out.at hlt
      replace hx := hx.below hb hg
      replace hy := hy.below hb hg'
      have HB := Lib.hid hb; clear hb
      obtain ⟨x, hxe⟩ : ∃ x, x = ndOf t k := ⟨_, rfl⟩
      rw [← hxe] at hx hy
      clear hxe
      have HGX := Lib.hid hg; have HGY := Lib.hid hg'
      have HXX := Lib.hid hx; have HYY := Lib.hid hy; clear hx hy hg hg'
      have hcall := fun W => eqNode_yes x W
      unfold ndVal at hcall
      have HCALL := Lib.hid hcall; clear hcall
      obtain ⟨xi, xn, xf, xp⟩ := x
      dsimp only at *
      go_upto_region 6 with fail
      refine wp_region_held_drew (S := fun w' => w'.cell? ⟨g, off + k * 4, none⟩ = some (.int .i64 xi) ∧ w'.cell? ⟨g, off + k * 4 + 1, none⟩ = some (.string xn) ∧ w'.cell? ⟨g, off + k * 4 + 2, none⟩ = some (.int .i64 xf) ∧ w'.cell? ⟨g, off + k * 4 + 3, none⟩ = some (.bool xp) ∧ w'.cell? ⟨g', off' + k * 4, none⟩ = some (.int .i64 xi) ∧ w'.cell? ⟨g', off' + k * 4 + 1, none⟩ = some (.string xn) ∧ w'.cell? ⟨g', off' + k * 4 + 2, none⟩ = some (.int .i64 xf) ∧ w'.cell? ⟨g', off' + k * 4 + 3, none⟩ = some (.bool xp)) (by kernel_rfl) (⟨HXX.out.c0, HXX.out.c1, HXX.out.c2, HXX.out.c3, HYY.out.c0, HYY.out.c1, HYY.out.c2, HYY.out.c3⟩) (fun hHeld => ?_)
      refine wpAnyH_take (i := 0) (v := ?_) rfl (by kernel_rfl) (by kernel_rfl) (by kernel_rfl) (fun _ _ _ h => h) (Or.inl ⟨by rfl, ?_⟩) (by assumption) ?_
      rotate_left
      · (intro w hSw; (try dsimp only at hSw); go_simp; (try with_reducible rfl))
      try simp only [List.getElem_toArray, List.getElem_cons_succ, List.getElem_cons_zero, Act.put, List.setIfInBounds_toArray, List.set_cons_zero, List.set_cons_succ]
      refine wpAnyH_take (i := 1) (v := ?_) rfl (by kernel_rfl) (by kernel_rfl) (by kernel_rfl) (fun _ _ _ h => h) (Or.inl ⟨by rfl, ?_⟩) (by assumption) ?_
      rotate_left
      · (intro w hSw; (try dsimp only at hSw); go_simp; (try with_reducible rfl))
      try simp only [List.getElem_toArray, List.getElem_cons_succ, List.getElem_cons_zero, Act.put, List.setIfInBounds_toArray, List.set_cons_zero, List.set_cons_succ]
      refine wpAnyH_take (i := 2) (v := ?_) rfl (by kernel_rfl) (by kernel_rfl) (by kernel_rfl) (fun _ _ _ h => h) (Or.inl ⟨by rfl, ?_⟩) (by assumption) ?_
      rotate_left
      · (intro w hSw; (try dsimp only at hSw); go_simp; (try with_reducible rfl))
      try simp only [List.getElem_toArray, List.getElem_cons_succ, List.getElem_cons_zero, Act.put, List.setIfInBounds_toArray, List.set_cons_zero, List.set_cons_succ]
      refine wpAnyH_take (i := 3) (v := ?_) rfl (by kernel_rfl) (by kernel_rfl) (by kernel_rfl) (fun _ _ _ h => h) (Or.inl ⟨by rfl, ?_⟩) (by assumption) ?_
      rotate_left
      · (intro w hSw; (try dsimp only at hSw); go_simp; (try with_reducible rfl))
      try simp only [List.getElem_toArray, List.getElem_cons_succ, List.getElem_cons_zero, Act.put, List.setIfInBounds_toArray, List.set_cons_zero, List.set_cons_succ]
      refine wpAnyH_take (i := 4) (v := ?_) rfl (by kernel_rfl) (by kernel_rfl) (by kernel_rfl) (fun _ _ _ h => h) (Or.inl ⟨by rfl, ?_⟩) (by assumption) ?_
      rotate_left
      · (intro w hSw; (try dsimp only at hSw); go_simp; (try with_reducible rfl))
      try simp only [List.getElem_toArray, List.getElem_cons_succ, List.getElem_cons_zero, Act.put, List.setIfInBounds_toArray, List.set_cons_zero, List.set_cons_succ]
      refine wpAnyH_take (i := 5) (v := ?_) rfl (by kernel_rfl) (by kernel_rfl) (by kernel_rfl) (fun _ _ _ h => h) (Or.inl ⟨by rfl, ?_⟩) (by assumption) ?_
      rotate_left
      · (intro w hSw; (try dsimp only at hSw); go_simp; (try with_reducible rfl))
      try simp only [List.getElem_toArray, List.getElem_cons_succ, List.getElem_cons_zero, Act.put, List.setIfInBounds_toArray, List.set_cons_zero, List.set_cons_succ]
      refine wpAnyH_take (i := 6) (v := ?_) rfl (by kernel_rfl) (by kernel_rfl) (by kernel_rfl) (fun _ _ _ h => h) (Or.inl ⟨by rfl, ?_⟩) (by assumption) ?_
      rotate_left
      · (intro w hSw; (try dsimp only at hSw); go_simp; (try with_reducible rfl))
      try simp only [List.getElem_toArray, List.getElem_cons_succ, List.getElem_cons_zero, Act.put, List.setIfInBounds_toArray, List.set_cons_zero, List.set_cons_succ]
      refine wpAnyH_take (i := 7) (v := ?_) rfl (by kernel_rfl) (by kernel_rfl) (by kernel_rfl) (fun _ _ _ h => h) (Or.inl ⟨by rfl, ?_⟩) (by assumption) ?_
      rotate_left
      · (intro w hSw; (try dsimp only at hSw); go_simp; (try with_reducible rfl))
      try simp only [List.getElem_toArray, List.getElem_cons_succ, List.getElem_cons_zero, Act.put, List.setIfInBounds_toArray, List.set_cons_zero, List.set_cons_succ]
      refine wpAnyH_ready (rs := [8]) (by kernel_rfl) (by simp) (AllReadyH.cons rfl (fun K hK => ?_) AllReadyH.nil)
      go_simp
      refine (HCALL.out _).mono ?_
      rintro e w2 ⟨rfl, b2⟩
      replace b2 := below_two (Below.drew (Below.refl wr.heap.size wr)) b2
      have HX2 := Lib.hid (HXX.out.below b2 (Nat.lt_of_lt_of_le HGX.out HB.out.size))
      have HY2 := Lib.hid (HYY.out.below b2 (Nat.lt_of_lt_of_le HGY.out HB.out.size))
      have HB2 := Lib.hid (below_two HB.out b2)
      clear b2
      go_wp2_with fail
      refine hK.out _ _ ?_ (fun hHeld => ?_)
      · exact ⟨HX2.out.c0, HX2.out.c1, HX2.out.c2, HX2.out.c3, HY2.out.c0, HY2.out.c1, HY2.out.c2, HY2.out.c3⟩
      clear hK K
      try simp only [List.getElem_toArray, List.getElem_cons_succ, List.getElem_cons_zero, Act.put, List.setIfInBounds_toArray, List.set_cons_zero, List.set_cons_succ]
      refine wpAnyH_take (i := 9) (v := ?_) rfl (by kernel_rfl) (by kernel_rfl) (by kernel_rfl) (fun _ _ _ h => h) (Or.inl ⟨by rfl, ?_⟩) (by assumption) ?_
      rotate_left
      · (intro w hSw; (try dsimp only at hSw); go_simp; (try with_reducible rfl))
      try simp only [List.getElem_toArray, List.getElem_cons_succ, List.getElem_cons_zero, Act.put, List.setIfInBounds_toArray, List.set_cons_zero, List.set_cons_succ]
      refine wpAnyH_done (by kernel_rfl) ?_ _
      go_wp2_with fail
      go_roundw
      case rel => exact ⟨k + 1, by omega, by go_num, HB2.out⟩
      case measure => simp [intOf]; omega
    · have hkn : k = n := by omega
      subst hkn
      have HB := Lib.hid hb; clear hb
      go_wp2_with fail
      go_ret
      exact ⟨rfl, HB.out⟩
end Go.Proofs.Ytpghbbpidlfelaa
