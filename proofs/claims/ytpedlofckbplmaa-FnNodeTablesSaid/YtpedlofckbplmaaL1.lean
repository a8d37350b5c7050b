/-
  Chapter 10: the laws' functions on slices of entries: made, measured, compared.
-/
import Derived.Test.YtpedlofckbplmaaNv
namespace Go.Proofs.Ytpedlofckbplmaa
open Go.RowKit

theorem infoNd : (Try.prog.info? 59).map (fun i => (i.zero, i.size, i.bytes)) = some (some (ndVal Nd.zero), 4, 40) := by kernel_rfl
def fillN (t : List Nd) (k : Nat) : List Nd := t.take k ++ List.replicate (t.length - k) Nd.zero
theorem fillN_len (t : List Nd) (k : Nat) (hk : k ≤ t.length) : (fillN t k).length = t.length := by
  unfold fillN; rw [List.length_append, List.length_take, List.length_replicate]; omega
theorem fillN_zero (t : List Nd) : fillN t 0 = List.replicate t.length Nd.zero := by simp [fillN]
theorem fillN_all (t : List Nd) : fillN t t.length = t := by simp [fillN]
theorem fillN_succ (t : List Nd) (k : Nat) (hk : k < t.length) : (fillN t k).set k (ndOf t k) = fillN t (k + 1) := by
  have hm : min k t.length = k := by omega
  unfold fillN
  rw [ndOf_getD t k hk, List.set_append_right _ _ (by rw [List.length_take]; omega)]
  rw [show t.length - k = (t.length - (k + 1)) + 1 from by omega, List.replicate_succ, List.length_take, hm, Nat.sub_self, List.set_cons_zero]
  simp
/-! ### measured -/
def szGo : List Nd → Int → Int
  | [], m => m
  | x :: r, m => if m < x.name.size then -1 else szGo r (m - x.name.size)
def szS (t : List Nd) (m : Int) : Int := if m < t.length then -1 else szGo t (m - t.length)
theorem szGo_drop {t : List Nd} {k : Nat} (h : k < t.length) (m : Int) : szGo (t.drop k) m = if m < (ndOf t k).name.size then -1 else szGo (t.drop (k + 1)) (m - (ndOf t k).name.size) := by
  rw [List.drop_eq_getElem_cons h, szGo, ndOf_get h]
theorem szGo_names : ∀ (t : List Nd) (m : Int), 0 ≤ szGo t m → m ≤ 1048576 → smallN t
  | [], _, _, _ => fun i h => by simp at h
  | x :: r, m, h, hm => by
    rw [szGo] at h
    split at h
    · omega
    · rename_i hc
      have h1 := szGo_names r (m - x.name.size) h (by omega)
      intro i hi
      cases i with
      | zero => show (ndOf (x :: r) 0).name.size ≤ _; rw [show ndOf (x :: r) 0 = x from by simp [ndOf]]; omega
      | succ i => rw [show ndOf (x :: r) (i + 1) = ndOf r i from by simp [ndOf]]; exact h1 i (by simpa using hi)
theorem szS_ok {t : List Nd} (h : 0 ≤ szS t 1048576) : t.length ≤ 1048576 ∧ smallN t := by
  unfold szS at h
  split at h
  · omega
  · exact ⟨by omega, szGo_names _ _ h (by omega)⟩
theorem szGo_neg : ∀ (t : List Nd) (m : Int), 0 ≤ m → szGo t m = -1 ∨ (0 ≤ szGo t m ∧ szGo t m ≤ m)
  | [], m, h => .inr ⟨h, Int.le_refl _⟩
  | x :: r, m, h => by
    rw [szGo]
    split
    · exact .inl rfl
    · rcases szGo_neg r (m - x.name.size) (by omega) with h1 | h1
      · exact .inl h1
      · exact .inr ⟨h1.1, by omega⟩
theorem szS_neg (t : List Nd) : szS t 1048576 = -1 ∨ (0 ≤ szS t 1048576 ∧ szS t 1048576 ≤ 1048576) := by
  unfold szS
  split
  · exact .inl rfl
  · rcases szGo_neg t (1048576 - t.length) (by omega) with h1 | h1
    · exact .inl h1
    · exact .inr ⟨h1.1, by omega⟩
set_option maxHeartbeats 1000000 in
set_option maxRecDepth 100000 in
set_option linter.unusedSimpArgs false in
/-- laws.eqNodeInfoS of one list read twice. -/
theorem eqNodes_yes (ao bo : Option Addr) (n c d : Nat) (t : List Nd) (w : World) (hx : RdN w ao n t) (hy : RdN w bo n t) (hn : n ≤ 9223372036854775807) (hc : n ≤ c) (hd : n ≤ d) :
    Calls Try.prog 21 #[.slice ao n c, .slice bo n d] w fun e w' => e = .returned (.bool true) ∧ Below w.heap.size w w' := by
  have HX := Lib.hid hx; have HY := Lib.hid hy; clear hx hy
  have hne : ((n : Int) != (n : Int)) = false := by simp
  go_enter Try.func21, Try.ntmps21
  go_wp2_with fail
  clear hne
  go_loopw [5] (fun i wr => ∃ k : Nat, k ≤ n ∧ i = .int .i64 k ∧ Below w.heap.size w wr) (fun i _ => n - (intOf i).toNat)
  case atStart => exact ⟨0, Nat.zero_le _, rfl, Below.refl _ _⟩
  case round =>
    obtain ⟨k, hk, rfl, hb⟩ := hrel
    by_cases hlt : k < n
    · obtain ⟨g, off, rfl, hg, hx⟩ := HX.out.at hlt
      obtain ⟨g', off', rfl, hg', hy⟩ := HY.out.at hlt
      replace hx := hx.below hb hg
      replace hy := hy.below hb hg'
      have HB := Lib.hid hb; clear hb
      obtain ⟨x, hxe⟩ : ∃ x, x = ndOf t k := ⟨_, rfl⟩
      rw [← hxe] at hx hy
      clear hxe
      have HGX := Lib.hid hg; have HGY := Lib.hid hg'
      have HXX := Lib.hid hx; have HYY := Lib.hid hy; clear hx hy hg hg'
      have hcall := fun W => eqNode_yes x W
      unfold ndVal at hcall
      have HCALL := Lib.hid hcall; clear hcall
      obtain ⟨xi, xn, xf, xp⟩ := x
      dsimp only at *
      go_upto_region 6 with fail
      refine wp_region_held_drew (S := fun w' => w'.cell? ⟨g, off + k * 4, none⟩ = some (.int .i64 xi) ∧ w'.cell? ⟨g, off + k * 4 + 1, none⟩ = some (.string xn) ∧ w'.cell? ⟨g, off + k * 4 + 2, none⟩ = some (.int .i64 xf) ∧ w'.cell? ⟨g, off + k * 4 + 3, none⟩ = some (.bool xp) ∧ w'.cell? ⟨g', off' + k * 4, none⟩ = some (.int .i64 xi) ∧ w'.cell? ⟨g', off' + k * 4 + 1, none⟩ = some (.string xn) ∧ w'.cell? ⟨g', off' + k * 4 + 2, none⟩ = some (.int .i64 xf) ∧ w'.cell? ⟨g', off' + k * 4 + 3, none⟩ = some (.bool xp)) (by kernel_rfl) (⟨HXX.out.c0, HXX.out.c1, HXX.out.c2, HXX.out.c3, HYY.out.c0, HYY.out.c1, HYY.out.c2, HYY.out.c3⟩) (fun hHeld => ?_)
      refine wpAnyH_take (i := 0) (v := ?_) rfl (by kernel_rfl) (by kernel_rfl) (by kernel_rfl) (fun _ _ _ h => h) (Or.inl ⟨by rfl, ?_⟩) (by assumption) ?_
      rotate_left
      · (intro w hSw; (try dsimp only at hSw); go_simp; (try with_reducible rfl))
      try simp only [List.getElem_toArray, List.getElem_cons_succ, List.getElem_cons_zero, Act.put, List.setIfInBounds_toArray, List.set_cons_zero, List.set_cons_succ]
      refine wpAnyH_take (i := 1) (v := ?_) rfl (by kernel_rfl) (by kernel_rfl) (by kernel_rfl) (fun _ _ _ h => h) (Or.inl ⟨by rfl, ?_⟩) (by assumption) ?_
      rotate_left
      · (intro w hSw; (try dsimp only at hSw); go_simp; (try with_reducible rfl))
      try simp only [List.getElem_toArray, List.getElem_cons_succ, List.getElem_cons_zero, Act.put, List.setIfInBounds_toArray, List.set_cons_zero, List.set_cons_succ]
      refine wpAnyH_take (i := 2) (v := ?_) rfl (by kernel_rfl) (by kernel_rfl) (by kernel_rfl) (fun _ _ _ h => h) (Or.inl ⟨by rfl, ?_⟩) (by assumption) ?_
      rotate_left
      · (intro w hSw; (try dsimp only at hSw); go_simp; (try with_reducible rfl))
      try simp only [List.getElem_toArray, List.getElem_cons_succ, List.getElem_cons_zero, Act.put, List.setIfInBounds_toArray, List.set_cons_zero, List.set_cons_succ]
      refine wpAnyH_take (i := 3) (v := ?_) rfl (by kernel_rfl) (by kernel_rfl) (by kernel_rfl) (fun _ _ _ h => h) (Or.inl ⟨by rfl, ?_⟩) (by assumption) ?_
      rotate_left
      · (intro w hSw; (try dsimp only at hSw); go_simp; (try with_reducible rfl))
      try simp only [List.getElem_toArray, List.getElem_cons_succ, List.getElem_cons_zero, Act.put, List.setIfInBounds_toArray, List.set_cons_zero, List.set_cons_succ]
      refine wpAnyH_take (i := 4) (v := ?_) rfl (by kernel_rfl) (by kernel_rfl) (by kernel_rfl) (fun _ _ _ h => h) (Or.inl ⟨by rfl, ?_⟩) (by assumption) ?_
      rotate_left
      · (intro w hSw; (try dsimp only at hSw); go_simp; (try with_reducible rfl))
      try simp only [List.getElem_toArray, List.getElem_cons_succ, List.getElem_cons_zero, Act.put, List.setIfInBounds_toArray, List.set_cons_zero, List.set_cons_succ]
      refine wpAnyH_take (i := 5) (v := ?_) rfl (by kernel_rfl) (by kernel_rfl) (by kernel_rfl) (fun _ _ _ h => h) (Or.inl ⟨by rfl, ?_⟩) (by assumption) ?_
      rotate_left
      · (intro w hSw; (try dsimp only at hSw); go_simp; (try with_reducible rfl))
      try simp only [List.getElem_toArray, List.getElem_cons_succ, List.getElem_cons_zero, Act.put, List.setIfInBounds_toArray, List.set_cons_zero, List.set_cons_succ]
      refine wpAnyH_take (i := 6) (v := ?_) rfl (by kernel_rfl) (by kernel_rfl) (by kernel_rfl) (fun _ _ _ h => h) (Or.inl ⟨by rfl, ?_⟩) (by assumption) ?_
      rotate_left
      · (intro w hSw; (try dsimp only at hSw); go_simp; (try with_reducible rfl))
      try simp only [List.getElem_toArray, List.getElem_cons_succ, List.getElem_cons_zero, Act.put, List.setIfInBounds_toArray, List.set_cons_zero, List.set_cons_succ]
      refine wpAnyH_take (i := 7) (v := ?_) rfl (by kernel_rfl) (by kernel_rfl) (by kernel_rfl) (fun _ _ _ h => h) (Or.inl ⟨by rfl, ?_⟩) (by assumption) ?_
      rotate_left
      · (intro w hSw; (try dsimp only at hSw); go_simp; (try with_reducible rfl))
      try simp only [List.getElem_toArray, List.getElem_cons_succ, List.getElem_cons_zero, Act.put, List.setIfInBounds_toArray, List.set_cons_zero, List.set_cons_succ]
      refine wpAnyH_ready (rs := [8]) (by kernel_rfl) (by simp) (AllReadyH.cons rfl (fun K hK => ?_) AllReadyH.nil)
      go_simp
      refine (HCALL.out _).mono ?_
      rintro e w2 ⟨rfl, b2⟩
      replace b2 := below_two (Below.drew (Below.refl wr.heap.size wr)) b2
      have HX2 := Lib.hid (HXX.out.below b2 (Nat.lt_of_lt_of_le HGX.out HB.out.size))
      have HY2 := Lib.hid (HYY.out.below b2 (Nat.lt_of_lt_of_le HGY.out HB.out.size))
      have HB2 := Lib.hid (below_two HB.out b2)
      clear b2
      go_wp2_with fail
      refine hK.out _ _ ?_ (fun hHeld => ?_)
      · exact ⟨HX2.out.c0, HX2.out.c1, HX2.out.c2, HX2.out.c3, HY2.out.c0, HY2.out.c1, HY2.out.c2, HY2.out.c3⟩
      clear hK K
      try simp only [List.getElem_toArray, List.getElem_cons_succ, List.getElem_cons_zero, Act.put, List.setIfInBounds_toArray, List.set_cons_zero, List.set_cons_succ]
      refine wpAnyH_take (i := 9) (v := ?_) rfl (by kernel_rfl) (by kernel_rfl) (by kernel_rfl) (fun _ _ _ h => h) (Or.inl ⟨by rfl, ?_⟩) (by assumption) ?_
      rotate_left
      · (intro w hSw; (try dsimp only at hSw); go_simp; (try with_reducible rfl))
      try simp only [List.getElem_toArray, List.getElem_cons_succ, List.getElem_cons_zero, Act.put, List.setIfInBounds_toArray, List.set_cons_zero, List.set_cons_succ]
      refine wpAnyH_done (by kernel_rfl) ?_ _
      go_wp2_with fail
      go_roundw
      case rel => exact ⟨k + 1, by omega, by go_num, HB2.out⟩
      case measure => simp [intOf]; omega
    · have hkn : k = n := by omega
      subst hkn
      have HB := Lib.hid hb; clear hb
      go_wp2_with fail
      go_ret
      exact ⟨rfl, HB.out⟩
end Go.Proofs.Ytpedlofckbplmaa
