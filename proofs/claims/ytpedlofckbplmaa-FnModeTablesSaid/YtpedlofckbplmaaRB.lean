/-
  Chapter 11: the model's ReadModeTable.
-/
import Derived.Test.YtpedlofckbplmaaQ2
import Derived.Test.YtpedlofckbplmaaMR
import Derived.Test.YtpedlofckbplmaaSame
import Derived.Test.YtpedlofckbplmaaP3
namespace Go.Proofs.Ytpedlofckbplmaa
open Go.RowKit

/-- What l11Read leaves. -/
def GotM (w : World) (o : Option (List Md × Nat)) (e : Ending) (w' : World) : Prop :=
  match o with
  | some (t, a) => ∃ v, e = .returned (.tuple #[v, .int .i64 (a : Int), .bool true]) ∧ OwnMs 78 2 w' w.heap.size v t ∧ Below w.heap.size w w'
  | none => e = .returned (.tuple #[.slice none 0 0, .int .i64 0, .bool false]) ∧ Below w.heap.size w w'
theorem mds_none {xs : List Int} {k : Nat} (h : mdsTo xs k = none) : ∀ j, mdsTo xs (k + j) = none
  | 0 => h
  | j + 1 => by rw [← Nat.add_assoc, mdsTo, mds_none h j]; rfl
theorem rdm_none {xs : List Int} {k : Nat} (h0 : ¬ xs.length = 0) (h : mdsTo xs k = none) (hk : k ≤ (xs.getD 0 0).toNat) : readModes xs = none := by
  have h1 := mds_none h ((xs.getD 0 0).toNat - k)
  rw [show k + ((xs.getD 0 0).toNat - k) = (xs.getD 0 0).toNat from by omega] at h1
  unfold readModes
  rw [if_neg h0, h1]; rfl
theorem rdm_tab {xs : List Int} {t : List Md} {a : Nat} (h0 : ¬ xs.length = 0) (h : mdsTo xs (xs.getD 0 0).toNat = some (t, a)) : readModes xs = if isModes t = true then some (t, a) else none := by
  unfold readModes
  rw [if_neg h0, h]; rfl
/-- How far and how much is read. -/
theorem mdsTo_le {xs : List Int} (h0 : 1 ≤ xs.length) : ∀ {k : Nat} {p : List Md × Nat}, mdsTo xs k = some p → p.1.length = k ∧ p.2 ≤ xs.length ∧ ∀ x ∈ p.1, x.next.length ≤ xs.length
  | 0, p, h => by
    cases h
    exact ⟨rfl, h0, fun _ h => by cases h⟩
  | k + 1, p, h => by
    rw [mdsTo] at h
    obtain ⟨p0, h1, h2⟩ := Option.bind_eq_some_iff.1 h
    obtain ⟨q, h3, rfl⟩ := Option.map_eq_some_iff.1 h2
    obtain ⟨g1, g2, g3⟩ := mdsTo_le h0 h1
    unfold mdAt at h3
    split at h3
    · rename_i hc
      cases h3
      refine ⟨by simp [g1], hc.2, fun x hx => ?_⟩
      rcases List.mem_append.1 hx with hx | hx
      · exact g3 x hx
      · rw [List.mem_singleton] at hx
        subst hx
        simp only [List.length_take, List.length_drop]
        omega
    · cases h3

theorem mds_app (cs : List Mc) (y : Mc) : mds (cs ++ [y]) = mds cs ++ [y.md] := by simp [mds]
theorem rd_sub {w : World} {b off n a M : Nat} {xs : List Int} (hc : ∀ i, i < n → w.cell? ⟨b, off + i, none⟩ = some (.int .i64 (xs.getD i 0))) (hl : xs.length = n) (h : a + M ≤ n) (ao : Option Addr) (ha : 0 < M → ao = some ⟨b, off + a, none⟩) : Rd w ao M ((xs.drop a).take M) :=
  ⟨by rw [List.length_take, List.length_drop]; omega, fun h0 => ⟨b, off + a, ha h0, fun i hi => by
    rw [Nat.add_assoc, hc (a + i) (by omega)]
    simp [List.getD, hi, List.getElem?_drop]⟩⟩

set_option maxHeartbeats 4000000 in
set_option maxRecDepth 100000 in
set_option linter.unusedSimpArgs false in
theorem l11Read_any (ao : Option Addr) (n cap : Nat) (xs : List Int) (w : World) (hr : Rd w ao n xs) (hn : n ≤ 1048576) (hcap : n ≤ cap) (hcap2 : cap ≤ 9223372036854775807) (hby : ∀ x ∈ xs, 0 ≤ x ∧ x ≤ 255) :
    Calls Try.prog 73 #[.slice ao n cap] w (GotM w (readModes xs)) := by
  have hl := hr.len
  by_cases h0 : n = 0
  · have hF : readModes xs = none := by unfold readModes; rw [if_pos (by omega)]
    rw [hF]
    have h0' : ((n : Int) == 0) = true := by rw [beq_iff_eq]; omega
    clear hr hF h0 hl
    go_enter Try.func73, Try.ntmps73
    go_wp2_with fail
    go_ret3
    exact ⟨rfl, Below.refl _ _⟩
  have h0' : ((n : Int) == 0) = false := by rw [beq_eq_false_iff_ne]; omega
  have hpn : 0 < n := by omega
  have hpni : (0 : Int) < (n : Int) := by omega
  have h0x : ¬ xs.length = 0 := by omega
  obtain ⟨b, off, rfl, hc⟩ := hr.here (by omega)
  have hc0 := hc 0 (by omega)
  have hblt : b < w.heap.size := World.block_lt_of_cell? w _ hc0
  obtain ⟨N, hN⟩ : ∃ N : Nat, N = (xs.getD 0 0).toNat := ⟨_, rfl⟩
  have hn4 := bytes_at_ hby 0
  have hN0 : xs.getD 0 0 = (N : Int) := by omega
  have hN1 : N ≤ 255 := by omega
  rw [hN0, Nat.add_zero] at hc0
  have hnone := fun k (h : mdsTo xs k = none) (hk : k ≤ N) => rdm_none h0x h (by rw [← hN]; exact hk)
  have htab := fun t a (h : mdsTo xs N = some (t, a)) => rdm_tab (t := t) (a := a) h0x (by rw [← hN]; exact h)
  have hle := fun k (p : List Md × Nat) (h : mdsTo xs k = some p) => (by have h1 := mdsTo_le (xs := xs) (by omega) h; rw [hl] at h1; exact h1 : p.1.length = k ∧ p.2 ≤ n ∧ ∀ x ∈ p.1, x.next.length ≤ n)
  have HCE := Lib.hid hc; have HR := Lib.hid hr; have HBY := Lib.hid hby; have HNONE := Lib.hid hnone; have HTAB := Lib.hid htab; have HLE := Lib.hid hle
  clear hc hr hby hnone htab hle hn4 hN0 hN h0 h0x
  have HLEN := Lib.hid hl; clear hl
  go_enter Try.func73, Try.ntmps73
  have hb0 : Below w.heap.size w (w.alloc (.cells #[] 78)) := (Below.refl _ _).alloc (Nat.le_refl _) _
  have hc1 := (hb0.cell (p := ⟨b, off, none⟩) hblt).trans hc0
  have ho0 : OwnM 78 2 (w.alloc (.cells #[] 78)) w.heap.size (.slice (some ⟨w.heap.size, 0, none⟩) 0 0) [] := OwnM.of_alloc_nil (Nat.le_refl _)
  have HO0 := Lib.hid ho0; have HB0 := Lib.hid hb0; clear ho0 hb0
  go_wp2_with fail
  clear hc0 hc1 h0'
  go_loopw [5, 6, 7] (fun o i m wr => ∃ (k : Nat) (cs : List Mc) (a : Nat), k ≤ N ∧ m = .int .i64 ((N - k : Nat) : Int) ∧ i = .int .i64 (a : Int) ∧ Hid (mdsTo xs k = some (mds cs, a)) ∧ OwnM 78 2 wr w.heap.size o cs ∧ Below w.heap.size w wr) (fun _ _ m _ => (intOf m).toNat)
  case atStart => exact ⟨0, [], 1, Nat.zero_le _, by simp, rfl, rfl, HO0.out, HB0.out⟩
  case round =>
    clear HO0 HB0
    obtain ⟨k, cs, a, hk, rfl, rfl, hnd, ho, hb⟩ := hrel
    have hal : a ≤ n := (HLE.out _ _ hnd.out).2.1
    have HTL := Lib.hid (show cs.length ≤ 255 from by have := (HLE.out _ _ hnd.out).1; simp only [mds_len] at this; omega)
    have hn1 : mdsTo xs (k + 1) = (mdAt xs a).map fun q => (mds cs ++ [q.1], q.2) := by rw [mdsTo, hnd.out]; rfl
    have HO := Lib.hid ho; have HB := Lib.hid hb; have HN1 := Lib.hid hn1
    clear ho hb hn1
    by_cases hlt : k < N
    · obtain ⟨J, hJ⟩ : ∃ J : Nat, J = N - k - 1 := ⟨_, rfl⟩
      have hJ1 : ((N - k : Nat) : Int) = (J : Int) + 1 := by omega
      have hJ2 : N - (k + 1) = J := by omega
      rw [hJ1]
      have HJ2 := Lib.hid hJ2
      have hJb : J ≤ 255 := by omega
      clear hJ hJ1 hJ2
      have hpos : (0 : Int) < (J : Int) + 1 := by omega
      have hwa : IntKind.i64.wrap ((a : Int) + 3) = (a : Int) + 3 := by rw [IntKind.wrap_i64]; omega
      by_cases hA : n < a + 3
      · have hF := HNONE.out (k + 1) (by rw [HN1.out]; unfold mdAt; rw [HLEN.out, if_neg (by omega)]; rfl) hlt
        rw [hF]
        have hAi : (n : Int) < (a : Int) + 3 := by omega
        clear hF
        go_wp2_with fail
        go_ret3
        exact ⟨rfl, HB.out⟩
      have hAi : ¬ (n : Int) < (a : Int) + 3 := by omega
      have hAd : decide ((n : Int) < (a : Int) + 3) = false := decide_eq_false hAi
      have hcell := fun j (hj : a + j < n) => (HB.out.cell (p := ⟨b, off + (a + j), none⟩) hblt).trans (HCE.out (a + j) hj)
      have c2 := hcell 2 (by omega)
      obtain ⟨M, hM⟩ : ∃ M : Nat, M = (xs.getD (a + 2) 0).toNat := ⟨_, rfl⟩
      have hm4 := bytes_at_ HBY.out (a + 2)
      have hM0 : xs.getD (a + 2) 0 = (M : Int) := by omega
      have hM1 : M ≤ 255 := by omega
      rw [hM0] at c2
      have hAt : mdAt xs a = if a + 3 + M ≤ n then some (⟨xs.getD a 0, xs.getD (a + 1) 0, (xs.drop (a + 3)).take M⟩, a + 3 + M) else none := by
        unfold mdAt
        rw [← hM, HLEN.out]
        by_cases hq : a + 3 + M ≤ n
        · rw [if_pos ⟨by omega, hq⟩, if_pos hq]
        · rw [if_neg (fun hq2 => hq hq2.2), if_neg hq]
      have HAT := Lib.hid hAt
      have HCELL := Lib.hid hcell
      clear hAt hcell hm4 hM0 hM
      have hw2 : IntKind.i64.wrap ((a : Int) + 2) = (a : Int) + 2 := by rw [IntKind.wrap_i64]; omega
      have hwm : IntKind.i64.wrap ((a : Int) + 3 + (M : Int)) = (a : Int) + 3 + (M : Int) := by rw [IntKind.wrap_i64]; omega
      have i2 : (a : Int) + 2 < (n : Int) := by omega
      have j2 : (0 : Int) ≤ (a : Int) + 2 := by omega
      have t2 : ((a : Int) + 2).toNat = a + 2 := by omega
      by_cases hBd : n < a + 3 + M
      · have hF := HNONE.out (k + 1) (by rw [HN1.out, HAT.out, if_neg (by omega)]; rfl) hlt
        rw [hF]
        have hBi : (n : Int) < (a : Int) + 3 + (M : Int) := by omega
        clear hF
        go_wp2_with fail
        go_ret3
        exact ⟨rfl, HB.out⟩
      have hBi : ¬ (n : Int) < (a : Int) + 3 + (M : Int) := by omega
      have hAM : a + 3 + M ≤ n := by omega
      obtain ⟨x0, hx0⟩ : ∃ x, x = xs.getD a 0 := ⟨_, rfl⟩
      obtain ⟨x1, hx1⟩ : ∃ x, x = xs.getD (a + 1) 0 := ⟨_, rfl⟩
      obtain ⟨L, hL⟩ : ∃ L, L = (xs.drop (a + 3)).take M := ⟨_, rfl⟩
      have hLl : L.length = M := by rw [hL, List.length_take, List.length_drop, HLEN.out]; omega
      have hat := HAT.out
      rw [if_pos hAM, ← hx0, ← hx1, ← hL] at hat
      have hnd1 : mdsTo xs (k + 1) = some (mds cs ++ [⟨x0, x1, L⟩], a + 3 + M) := by rw [HN1.out, hat]; rfl
      have d0 := HCELL.out 0 (by omega)
      have d1 := HCELL.out 1 (by omega)
      rw [Nat.add_zero, ← hx0] at d0
      rw [← hx1] at d1
      have hrd : ∀ ao, (0 < M → ao = some ⟨b, off + (a + 3), none⟩) → Rd wr ao M L := fun ao h => by
        rw [hL]
        exact rd_sub (fun i hi => (HB.out.cell (p := ⟨b, off + i, none⟩) hblt).trans (HCE.out i hi)) HLEN.out hAM ao h
      have HND1 := Lib.hid hnd1; have HLL := Lib.hid hLl; have HRD := Lib.hid hrd
      have HD0 := Lib.hid d0; have HD1 := Lib.hid d1
      have HAM := Lib.hid hAM
      have hblr : b < wr.heap.size := Nat.lt_of_lt_of_le hblt HB.out.size
      clear hat HAT hnd1 hLl hrd d0 d1 hx0 hx1 hL HN1 hAM hnd
      have hs1 : (0 : Int) ≤ (a : Int) + 3 := by omega
      have hs2 : (a : Int) + 3 ≤ (a : Int) + 3 + (M : Int) := by omega
      have hs3 : (a : Int) + 3 + (M : Int) ≤ (cap : Int) := by have := HAM.out; omega
      have t3 : ((a : Int) + 3).toNat = a + 3 := by omega
      have tm : ((a : Int) + 3 + (M : Int)).toNat = a + 3 + M := by omega
      by_cases hcs : cap = a + 3
      · subst hcs
        have hcall : Calls Try.prog 111 #[.slice (some ⟨b, off, none⟩) M 0] wr (Makes 2 wr L) := by
          have h := l01Own_any (some ⟨b, off, none⟩) 0 L wr (by rw [HLL.out]; exact HRD.out _ (fun h => by have := HAM.out; omega)) (by rw [HLL.out]; omega)
          rwa [HLL.out] at h
        have HCALL := Lib.hid hcall; clear hcall
        go_wp2_with (go_at_call 111; refine HCALL.out.mono ?_; rintro e w1 m1; obtain ⟨p1, c1, e1, o1, -, b1⟩ := m1.get; rw [HLL.out] at e1; subst e1; have O1 := Lib.hid o1; have B1 := Lib.hid b1; clear m1 o1 b1; go_upto_region 11 with fail)
        have HSIZE := Lib.hid B1.out.size
        have hbw1 := below_two HB.out B1.out
        have hbq1 : b < w1.heap.size := Nat.lt_of_lt_of_le hblr B1.out.size
        have HE0 := Lib.hid ((B1.out.cell (p := ⟨b, off + a, none⟩) hblr).trans HD0.out)
        have HE1 := Lib.hid ((B1.out.cell (p := ⟨b, off + (a + 1), none⟩) hblr).trans HD1.out)
        have HFR := Lib.hid (HO.out.fresh O1.out)
        have HOW := Lib.hid (HO.out.below B1.out)
        have HBW := Lib.hid hbw1
        have HNX := Lib.hid (O1.out.more HB.out.size)
        clear hbw1 O1 B1 HO HB HD0 HD1 HSIZE
        have i0 : (a : Int) < (n : Int) := by have := HAM.out; omega
        have i1 : (a : Int) + 1 < (n : Int) := by have := HAM.out; omega
        have j1 : (0 : Int) ≤ (a : Int) + 1 := by omega
        have wz1 : IntKind.i64.wrap ((a : Int) + 1) = (a : Int) + 1 := by rw [IntKind.wrap_i64]; omega
        have hbd : Below w1.heap.size w1 w1.drew := Below.drew (Below.refl _ _)
        have HOWd := Lib.hid (HOW.out.below hbd)
        have HBWd := Lib.hid (below_two HBW.out hbd)
        have HNXd := Lib.hid (HNX.out.below hbd)
        have hbqd : b < w1.drew.heap.size := hbq1
        have HF0 := Lib.hid ((hbd.cell (p := ⟨b, off + a, none⟩) hbq1).trans HE0.out)
        have HF1 := Lib.hid ((hbd.cell (p := ⟨b, off + (a + 1), none⟩) hbq1).trans HE1.out)
        clear hbd
        refine wp_region_held_drew (S := fun w' => w'.cell? ⟨b, off + a, none⟩ = some (.int .i64 x0) ∧ w'.cell? ⟨b, off + (a + 1), none⟩ = some (.int .i64 x1)) (by kernel_rfl) (⟨HE0.out, HE1.out⟩) (fun hHeld => ?_)
        generalize w1.drew = wd at HOWd HBWd HNXd hbqd HF0 HF1 hHeld ⊢
        clear HE0 HE1 HOW HBW HNX hbq1
        refine wpAnyH_take (i := 0) (v := ?_) rfl (by kernel_rfl) (by kernel_rfl) (by kernel_rfl) (fun _ _ _ h => h) (Or.inl ⟨by rfl, ?_⟩) (by assumption) ?_
        rotate_left
        · (intro w hSw; (try dsimp only at hSw); go_simp; (try with_reducible rfl))
        try simp only [List.getElem_toArray, List.getElem_cons_succ, List.getElem_cons_zero, Act.put, List.setIfInBounds_toArray, List.set_cons_zero, List.set_cons_succ]
        refine wpAnyH_take (i := 1) (v := ?_) rfl (by kernel_rfl) (by kernel_rfl) (by kernel_rfl) (fun _ _ _ h => h) (Or.inl ⟨by rfl, ?_⟩) (by assumption) ?_
        rotate_left
        · (intro w hSw; (try dsimp only at hSw); go_simp; (try with_reducible rfl))
        try simp only [List.getElem_toArray, List.getElem_cons_succ, List.getElem_cons_zero, Act.put, List.setIfInBounds_toArray, List.set_cons_zero, List.set_cons_succ]
        refine wpAnyH_take (i := 2) (v := ?_) rfl (by kernel_rfl) (by kernel_rfl) (by kernel_rfl) (fun _ _ _ h => h) (Or.inl ⟨by rfl, ?_⟩) (by assumption) ?_
        rotate_left
        · (intro w hSw; (try dsimp only at hSw); go_simp; (try with_reducible rfl))
        try simp only [List.getElem_toArray, List.getElem_cons_succ, List.getElem_cons_zero, Act.put, List.setIfInBounds_toArray, List.set_cons_zero, List.set_cons_succ]
        refine wpAnyH_take (i := 3) (v := ?_) rfl (by kernel_rfl) (by kernel_rfl) (by kernel_rfl) (fun _ _ _ h => h) (Or.inl ⟨by rfl, ?_⟩) (by assumption) ?_
        rotate_left
        · (intro w hSw; (try dsimp only at hSw); go_simp; (try with_reducible rfl))
        try simp only [List.getElem_toArray, List.getElem_cons_succ, List.getElem_cons_zero, Act.put, List.setIfInBounds_toArray, List.set_cons_zero, List.set_cons_succ]
        refine wpAnyH_take (i := 4) (v := ?_) rfl (by kernel_rfl) (by kernel_rfl) (by kernel_rfl) (fun _ _ _ h => h) (Or.inl ⟨by rfl, ?_⟩) (by assumption) ?_
        rotate_left
        · (intro w hSw; (try dsimp only at hSw); go_simp; (try with_reducible rfl))
        try simp only [List.getElem_toArray, List.getElem_cons_succ, List.getElem_cons_zero, Act.put, List.setIfInBounds_toArray, List.set_cons_zero, List.set_cons_succ]
        refine wpAnyH_take (i := 5) (v := ?_) rfl (by kernel_rfl) (by kernel_rfl) (by kernel_rfl) (fun _ _ _ h => h) (Or.inl ⟨by rfl, ?_⟩) (by assumption) ?_
        rotate_left
        · (intro w hSw; (try dsimp only at hSw); go_simp; (try with_reducible rfl))
        try simp only [List.getElem_toArray, List.getElem_cons_succ, List.getElem_cons_zero, Act.put, List.setIfInBounds_toArray, List.set_cons_zero, List.set_cons_succ]
        refine wpAnyH_take (i := 6) (v := ?_) rfl (by kernel_rfl) (by kernel_rfl) (by kernel_rfl) (fun _ _ _ h => h) (Or.inl ⟨by rfl, ?_⟩) (by assumption) ?_
        rotate_left
        · (intro w hSw; (try dsimp only at hSw); go_simp; (try with_reducible rfl))
        try simp only [List.getElem_toArray, List.getElem_cons_succ, List.getElem_cons_zero, Act.put, List.setIfInBounds_toArray, List.set_cons_zero, List.set_cons_succ]
        refine wpAnyH_take (i := 7) (v := ?_) rfl (by kernel_rfl) (by kernel_rfl) (by kernel_rfl) (fun _ _ _ h => h) (Or.inl ⟨by rfl, ?_⟩) (by assumption) ?_
        rotate_left
        · (intro w hSw; (try dsimp only at hSw); go_simp; (try with_reducible rfl))
        try simp only [List.getElem_toArray, List.getElem_cons_succ, List.getElem_cons_zero, Act.put, List.setIfInBounds_toArray, List.set_cons_zero, List.set_cons_succ]
        refine wpAnyH_take (i := 8) (v := ?_) rfl (by kernel_rfl) (by kernel_rfl) (by kernel_rfl) (fun _ _ _ h => h) (Or.inl ⟨by rfl, ?_⟩) (by assumption) ?_
        rotate_left
        · (intro w hSw; (try dsimp only at hSw); go_simp; (try with_reducible rfl))
        try simp only [List.getElem_toArray, List.getElem_cons_succ, List.getElem_cons_zero, Act.put, List.setIfInBounds_toArray, List.set_cons_zero, List.set_cons_succ]
        refine wpAnyH_take (i := 9) (v := ?_) rfl (by kernel_rfl) (by kernel_rfl) (by kernel_rfl) (fun _ _ _ h => h) (Or.inl ⟨by rfl, ?_⟩) (by assumption) ?_
        rotate_left
        · (intro w hSw; (try dsimp only at hSw); go_simp; (try with_reducible rfl))
        try simp only [List.getElem_toArray, List.getElem_cons_succ, List.getElem_cons_zero, Act.put, List.setIfInBounds_toArray, List.set_cons_zero, List.set_cons_succ]
        refine wpAnyH_take (i := 10) (v := ?_) rfl (by kernel_rfl) (by kernel_rfl) (by kernel_rfl) (fun _ _ _ h => h) (Or.inl ⟨by rfl, ?_⟩) (by assumption) ?_
        rotate_left
        · (intro w hSw; (try dsimp only at hSw); go_simp; (try with_reducible rfl))
        try simp only [List.getElem_toArray, List.getElem_cons_succ, List.getElem_cons_zero, Act.put, List.setIfInBounds_toArray, List.set_cons_zero, List.set_cons_succ]
        refine wpAnyH_take (i := 11) (v := ?_) rfl (by kernel_rfl) (by kernel_rfl) (by kernel_rfl) (fun _ _ _ h => h) (Or.inl ⟨by rfl, ?_⟩) (by assumption) ?_
        rotate_left
        · (intro w hSw; (try dsimp only at hSw); go_simp; (try with_reducible rfl))
        try simp only [List.getElem_toArray, List.getElem_cons_succ, List.getElem_cons_zero, Act.put, List.setIfInBounds_toArray, List.set_cons_zero, List.set_cons_succ]
        have hbl : Below wd.heap.size wd (wd.alloc (.cells #[.int .i64 x0, .int .i64 x1, .slice p1 M c1] 78)) := (Below.refl _ _).alloc (Nat.le_refl _) _
        have hmc : McIn (wd.alloc (.cells #[.int .i64 x0, .int .i64 x1, .slice p1 M c1] 78)) wd.heap.size 0 (⟨⟨x0, x1, L⟩, p1, c1⟩ : Mc) := by rw [← HLL.out]; exact (McAt.new (T := 78) (c := (⟨⟨x0, x1, L⟩, p1, c1⟩ : Mc)) wd).in_
        have HOW5 := Lib.hid (HOWd.out.below hbl)
        have HBW5 := Lib.hid (below_two HBWd.out hbl)
        have HNX5 := Lib.hid (HNXd.out.below hbl)
        have HG0 := Lib.hid ((hbl.cell (p := ⟨b, off + a, none⟩) hbqd).trans HF0.out)
        have HG1 := Lib.hid ((hbl.cell (p := ⟨b, off + (a + 1), none⟩) hbqd).trans HF1.out)
        have HMC := Lib.hid hmc; clear hbl hmc
        refine wpAnyH_ready (rs := [12]) (by kernel_rfl) (by simp) (AllReadyH.cons rfl (fun K hK => ?_) AllReadyH.nil)
        go_simp
        refine hK.out _ _ ?_ (fun hHeld => ?_)
        · exact ⟨HG0.out, HG1.out⟩
        clear hK K
        try simp only [List.getElem_toArray, List.getElem_cons_succ, List.getElem_cons_zero, Act.put, List.setIfInBounds_toArray, List.set_cons_zero, List.set_cons_succ]
        refine wpAnyH_ready (rs := [13]) (by kernel_rfl) (by simp) (AllReadyH.cons rfl (fun K hK => ?_) AllReadyH.nil)
        refine appM_op _ ne_md (.tmp 51) (.tmp 63) rfl w.heap.size Try.underlying39 infoMd _ cs rfl HOW5.out _ (⟨⟨x0, x1, L⟩, p1, c1⟩ : Mc) _ rfl HMC.out HNX5.out HFR.out (by have := HTL.out; omega) HBW5.out.size ?_
        intro v6 w6 o6 g6
        have HBW6 := Lib.hid (HBW5.out.grown g6 HBW5.out.size (fun k hk => (HOW5.out.block k hk).1))
        have hlow : some b ≠ Value.ownBlock u5 := fun e => by have := (HOW5.out.block b e.symm).1; omega
        have HH0 := Lib.hid (g6.cell HG0.out hlow)
        have HH1 := Lib.hid (g6.cell HG1.out hlow)
        have HO6 := Lib.hid o6; clear g6 o6 hlow
        refine hK.out _ _ ?_ (fun hHeld => ?_)
        · exact ⟨HH0.out, HH1.out⟩
        clear hK K
        try simp only [List.getElem_toArray, List.getElem_cons_succ, List.getElem_cons_zero, Act.put, List.setIfInBounds_toArray, List.set_cons_zero, List.set_cons_succ]
        refine wpAnyH_take (i := 14) (v := ?_) rfl (by kernel_rfl) (by kernel_rfl) (by kernel_rfl) (fun _ _ _ h => h) (Or.inl ⟨by rfl, ?_⟩) (by assumption) ?_
        rotate_left
        · (intro w hSw; (try dsimp only at hSw); go_simp; (try with_reducible rfl))
        try simp only [List.getElem_toArray, List.getElem_cons_succ, List.getElem_cons_zero, Act.put, List.setIfInBounds_toArray, List.set_cons_zero, List.set_cons_succ]
        refine wpAnyH_done (by kernel_rfl) ?_ _
        have HND2 : Hid (mdsTo xs (k + 1) = some (mds (cs ++ [(⟨⟨x0, x1, L⟩, p1, c1⟩ : Mc)]), a + 3 + M)) := by rw [mds_app]; exact HND1
        clear i0 i1 j1 wz1 hHeld HND1
        go_wp2_with fail
        go_roundw
        case rel => exact ⟨k + 1, cs ++ [(⟨⟨x0, x1, L⟩, p1, c1⟩ : Mc)], a + 3 + M, by omega, by rw [HJ2.out], by go_num, HND2.out, HO6.out, HBW6.out⟩
        case measure => simp [intOf]
      · have hcsi : ¬ (cap : Int) = (a : Int) + 3 := by omega
        have hcall : Calls Try.prog 111 #[.slice (some ⟨b, off + (a + 3), none⟩) M (cap - (a + 3))] wr (Makes 2 wr L) := by
          have h := l01Own_any (some ⟨b, off + (a + 3), none⟩) (cap - (a + 3)) L wr (by rw [HLL.out]; exact HRD.out _ (fun _ => rfl)) (by rw [HLL.out]; omega)
          rwa [HLL.out] at h
        have HCALL := Lib.hid hcall; clear hcall
        go_wp2_with (go_at_call 111; refine HCALL.out.mono ?_; rintro e w1 m1; obtain ⟨p1, c1, e1, o1, -, b1⟩ := m1.get; rw [HLL.out] at e1; subst e1; have O1 := Lib.hid o1; have B1 := Lib.hid b1; clear m1 o1 b1; go_upto_region 11 with fail)
        have HSIZE := Lib.hid B1.out.size
        have hbw1 := below_two HB.out B1.out
        have hbq1 : b < w1.heap.size := Nat.lt_of_lt_of_le hblr B1.out.size
        have HE0 := Lib.hid ((B1.out.cell (p := ⟨b, off + a, none⟩) hblr).trans HD0.out)
        have HE1 := Lib.hid ((B1.out.cell (p := ⟨b, off + (a + 1), none⟩) hblr).trans HD1.out)
        have HFR := Lib.hid (HO.out.fresh O1.out)
        have HOW := Lib.hid (HO.out.below B1.out)
        have HBW := Lib.hid hbw1
        have HNX := Lib.hid (O1.out.more HB.out.size)
        clear hbw1 O1 B1 HO HB HD0 HD1 HSIZE
        have i0 : (a : Int) < (n : Int) := by have := HAM.out; omega
        have i1 : (a : Int) + 1 < (n : Int) := by have := HAM.out; omega
        have j1 : (0 : Int) ≤ (a : Int) + 1 := by omega
        have wz1 : IntKind.i64.wrap ((a : Int) + 1) = (a : Int) + 1 := by rw [IntKind.wrap_i64]; omega
        have hbd : Below w1.heap.size w1 w1.drew := Below.drew (Below.refl _ _)
        have HOWd := Lib.hid (HOW.out.below hbd)
        have HBWd := Lib.hid (below_two HBW.out hbd)
        have HNXd := Lib.hid (HNX.out.below hbd)
        have hbqd : b < w1.drew.heap.size := hbq1
        have HF0 := Lib.hid ((hbd.cell (p := ⟨b, off + a, none⟩) hbq1).trans HE0.out)
        have HF1 := Lib.hid ((hbd.cell (p := ⟨b, off + (a + 1), none⟩) hbq1).trans HE1.out)
        clear hbd
        refine wp_region_held_drew (S := fun w' => w'.cell? ⟨b, off + a, none⟩ = some (.int .i64 x0) ∧ w'.cell? ⟨b, off + (a + 1), none⟩ = some (.int .i64 x1)) (by kernel_rfl) (⟨HE0.out, HE1.out⟩) (fun hHeld => ?_)
        generalize w1.drew = wd at HOWd HBWd HNXd hbqd HF0 HF1 hHeld ⊢
        clear HE0 HE1 HOW HBW HNX hbq1
        refine wpAnyH_take (i := 0) (v := ?_) rfl (by kernel_rfl) (by kernel_rfl) (by kernel_rfl) (fun _ _ _ h => h) (Or.inl ⟨by rfl, ?_⟩) (by assumption) ?_
        rotate_left
        · (intro w hSw; (try dsimp only at hSw); go_simp; (try with_reducible rfl))
        try simp only [List.getElem_toArray, List.getElem_cons_succ, List.getElem_cons_zero, Act.put, List.setIfInBounds_toArray, List.set_cons_zero, List.set_cons_succ]
        refine wpAnyH_take (i := 1) (v := ?_) rfl (by kernel_rfl) (by kernel_rfl) (by kernel_rfl) (fun _ _ _ h => h) (Or.inl ⟨by rfl, ?_⟩) (by assumption) ?_
        rotate_left
        · (intro w hSw; (try dsimp only at hSw); go_simp; (try with_reducible rfl))
        try simp only [List.getElem_toArray, List.getElem_cons_succ, List.getElem_cons_zero, Act.put, List.setIfInBounds_toArray, List.set_cons_zero, List.set_cons_succ]
        refine wpAnyH_take (i := 2) (v := ?_) rfl (by kernel_rfl) (by kernel_rfl) (by kernel_rfl) (fun _ _ _ h => h) (Or.inl ⟨by rfl, ?_⟩) (by assumption) ?_
        rotate_left
        · (intro w hSw; (try dsimp only at hSw); go_simp; (try with_reducible rfl))
        try simp only [List.getElem_toArray, List.getElem_cons_succ, List.getElem_cons_zero, Act.put, List.setIfInBounds_toArray, List.set_cons_zero, List.set_cons_succ]
        refine wpAnyH_take (i := 3) (v := ?_) rfl (by kernel_rfl) (by kernel_rfl) (by kernel_rfl) (fun _ _ _ h => h) (Or.inl ⟨by rfl, ?_⟩) (by assumption) ?_
        rotate_left
        · (intro w hSw; (try dsimp only at hSw); go_simp; (try with_reducible rfl))
        try simp only [List.getElem_toArray, List.getElem_cons_succ, List.getElem_cons_zero, Act.put, List.setIfInBounds_toArray, List.set_cons_zero, List.set_cons_succ]
        refine wpAnyH_take (i := 4) (v := ?_) rfl (by kernel_rfl) (by kernel_rfl) (by kernel_rfl) (fun _ _ _ h => h) (Or.inl ⟨by rfl, ?_⟩) (by assumption) ?_
        rotate_left
        · (intro w hSw; (try dsimp only at hSw); go_simp; (try with_reducible rfl))
        try simp only [List.getElem_toArray, List.getElem_cons_succ, List.getElem_cons_zero, Act.put, List.setIfInBounds_toArray, List.set_cons_zero, List.set_cons_succ]
        refine wpAnyH_take (i := 5) (v := ?_) rfl (by kernel_rfl) (by kernel_rfl) (by kernel_rfl) (fun _ _ _ h => h) (Or.inl ⟨by rfl, ?_⟩) (by assumption) ?_
        rotate_left
        · (intro w hSw; (try dsimp only at hSw); go_simp; (try with_reducible rfl))
        try simp only [List.getElem_toArray, List.getElem_cons_succ, List.getElem_cons_zero, Act.put, List.setIfInBounds_toArray, List.set_cons_zero, List.set_cons_succ]
        refine wpAnyH_take (i := 6) (v := ?_) rfl (by kernel_rfl) (by kernel_rfl) (by kernel_rfl) (fun _ _ _ h => h) (Or.inl ⟨by rfl, ?_⟩) (by assumption) ?_
        rotate_left
        · (intro w hSw; (try dsimp only at hSw); go_simp; (try with_reducible rfl))
        try simp only [List.getElem_toArray, List.getElem_cons_succ, List.getElem_cons_zero, Act.put, List.setIfInBounds_toArray, List.set_cons_zero, List.set_cons_succ]
        refine wpAnyH_take (i := 7) (v := ?_) rfl (by kernel_rfl) (by kernel_rfl) (by kernel_rfl) (fun _ _ _ h => h) (Or.inl ⟨by rfl, ?_⟩) (by assumption) ?_
        rotate_left
        · (intro w hSw; (try dsimp only at hSw); go_simp; (try with_reducible rfl))
        try simp only [List.getElem_toArray, List.getElem_cons_succ, List.getElem_cons_zero, Act.put, List.setIfInBounds_toArray, List.set_cons_zero, List.set_cons_succ]
        refine wpAnyH_take (i := 8) (v := ?_) rfl (by kernel_rfl) (by kernel_rfl) (by kernel_rfl) (fun _ _ _ h => h) (Or.inl ⟨by rfl, ?_⟩) (by assumption) ?_
        rotate_left
        · (intro w hSw; (try dsimp only at hSw); go_simp; (try with_reducible rfl))
        try simp only [List.getElem_toArray, List.getElem_cons_succ, List.getElem_cons_zero, Act.put, List.setIfInBounds_toArray, List.set_cons_zero, List.set_cons_succ]
        refine wpAnyH_take (i := 9) (v := ?_) rfl (by kernel_rfl) (by kernel_rfl) (by kernel_rfl) (fun _ _ _ h => h) (Or.inl ⟨by rfl, ?_⟩) (by assumption) ?_
        rotate_left
        · (intro w hSw; (try dsimp only at hSw); go_simp; (try with_reducible rfl))
        try simp only [List.getElem_toArray, List.getElem_cons_succ, List.getElem_cons_zero, Act.put, List.setIfInBounds_toArray, List.set_cons_zero, List.set_cons_succ]
        refine wpAnyH_take (i := 10) (v := ?_) rfl (by kernel_rfl) (by kernel_rfl) (by kernel_rfl) (fun _ _ _ h => h) (Or.inl ⟨by rfl, ?_⟩) (by assumption) ?_
        rotate_left
        · (intro w hSw; (try dsimp only at hSw); go_simp; (try with_reducible rfl))
        try simp only [List.getElem_toArray, List.getElem_cons_succ, List.getElem_cons_zero, Act.put, List.setIfInBounds_toArray, List.set_cons_zero, List.set_cons_succ]
        refine wpAnyH_take (i := 11) (v := ?_) rfl (by kernel_rfl) (by kernel_rfl) (by kernel_rfl) (fun _ _ _ h => h) (Or.inl ⟨by rfl, ?_⟩) (by assumption) ?_
        rotate_left
        · (intro w hSw; (try dsimp only at hSw); go_simp; (try with_reducible rfl))
        try simp only [List.getElem_toArray, List.getElem_cons_succ, List.getElem_cons_zero, Act.put, List.setIfInBounds_toArray, List.set_cons_zero, List.set_cons_succ]
        have hbl : Below wd.heap.size wd (wd.alloc (.cells #[.int .i64 x0, .int .i64 x1, .slice p1 M c1] 78)) := (Below.refl _ _).alloc (Nat.le_refl _) _
        have hmc : McIn (wd.alloc (.cells #[.int .i64 x0, .int .i64 x1, .slice p1 M c1] 78)) wd.heap.size 0 (⟨⟨x0, x1, L⟩, p1, c1⟩ : Mc) := by rw [← HLL.out]; exact (McAt.new (T := 78) (c := (⟨⟨x0, x1, L⟩, p1, c1⟩ : Mc)) wd).in_
        have HOW5 := Lib.hid (HOWd.out.below hbl)
        have HBW5 := Lib.hid (below_two HBWd.out hbl)
        have HNX5 := Lib.hid (HNXd.out.below hbl)
        have HG0 := Lib.hid ((hbl.cell (p := ⟨b, off + a, none⟩) hbqd).trans HF0.out)
        have HG1 := Lib.hid ((hbl.cell (p := ⟨b, off + (a + 1), none⟩) hbqd).trans HF1.out)
        have HMC := Lib.hid hmc; clear hbl hmc
        refine wpAnyH_ready (rs := [12]) (by kernel_rfl) (by simp) (AllReadyH.cons rfl (fun K hK => ?_) AllReadyH.nil)
        go_simp
        refine hK.out _ _ ?_ (fun hHeld => ?_)
        · exact ⟨HG0.out, HG1.out⟩
        clear hK K
        try simp only [List.getElem_toArray, List.getElem_cons_succ, List.getElem_cons_zero, Act.put, List.setIfInBounds_toArray, List.set_cons_zero, List.set_cons_succ]
        refine wpAnyH_ready (rs := [13]) (by kernel_rfl) (by simp) (AllReadyH.cons rfl (fun K hK => ?_) AllReadyH.nil)
        refine appM_op _ ne_md (.tmp 51) (.tmp 63) rfl w.heap.size Try.underlying39 infoMd _ cs rfl HOW5.out _ (⟨⟨x0, x1, L⟩, p1, c1⟩ : Mc) _ rfl HMC.out HNX5.out HFR.out (by have := HTL.out; omega) HBW5.out.size ?_
        intro v6 w6 o6 g6
        have HBW6 := Lib.hid (HBW5.out.grown g6 HBW5.out.size (fun k hk => (HOW5.out.block k hk).1))
        have hlow : some b ≠ Value.ownBlock u5 := fun e => by have := (HOW5.out.block b e.symm).1; omega
        have HH0 := Lib.hid (g6.cell HG0.out hlow)
        have HH1 := Lib.hid (g6.cell HG1.out hlow)
        have HO6 := Lib.hid o6; clear g6 o6 hlow
        refine hK.out _ _ ?_ (fun hHeld => ?_)
        · exact ⟨HH0.out, HH1.out⟩
        clear hK K
        try simp only [List.getElem_toArray, List.getElem_cons_succ, List.getElem_cons_zero, Act.put, List.setIfInBounds_toArray, List.set_cons_zero, List.set_cons_succ]
        refine wpAnyH_take (i := 14) (v := ?_) rfl (by kernel_rfl) (by kernel_rfl) (by kernel_rfl) (fun _ _ _ h => h) (Or.inl ⟨by rfl, ?_⟩) (by assumption) ?_
        rotate_left
        · (intro w hSw; (try dsimp only at hSw); go_simp; (try with_reducible rfl))
        try simp only [List.getElem_toArray, List.getElem_cons_succ, List.getElem_cons_zero, Act.put, List.setIfInBounds_toArray, List.set_cons_zero, List.set_cons_succ]
        refine wpAnyH_done (by kernel_rfl) ?_ _
        have HND2 : Hid (mdsTo xs (k + 1) = some (mds (cs ++ [(⟨⟨x0, x1, L⟩, p1, c1⟩ : Mc)]), a + 3 + M)) := by rw [mds_app]; exact HND1
        clear i0 i1 j1 wz1 hHeld HND1
        go_wp2_with fail
        go_roundw
        case rel => exact ⟨k + 1, cs ++ [(⟨⟨x0, x1, L⟩, p1, c1⟩ : Mc)], a + 3 + M, by omega, by rw [HJ2.out], by go_num, HND2.out, HO6.out, HBW6.out⟩
        case measure => simp [intOf]
    · have hkn : k = N := by omega
      have hF := HTAB.out (mds cs) a (by rw [← hkn]; exact hnd.out)
      rw [hkn, Nat.sub_self]
      obtain ⟨ao2, cap2, e2, o2, r2⟩ := HO.out.get
      subst e2
      have hsm := (HLE.out _ _ hnd.out).2.2
      have hcall := fun W (h : RdM W ao2 cs.length cs) => isModesS_any ao2 cs.length cap2 cs W h (by have := HTL.out; omega) (fun c hc => by have := hsm c.md (List.mem_map_of_mem hc); omega)
      have HCALL := Lib.hid hcall
      have HR2 := Lib.hid r2; have HO2 := Lib.hid o2; have HB2 := Lib.hid HB.out
      clear hcall r2 o2 HO HB hsm hnd HN1
      rcases ht : isModes (mds cs) with _ | _
      · rw [if_neg (by rw [ht]; simp)] at hF
        have HF2 := Lib.hid hF; clear hF
        go_wp2_with (go_at_call 34; refine (HCALL.out _ HR2.out).mono ?_; rintro e w2 ⟨rfl, b2⟩; rw [ht]; have HB3 := Lib.hid (below_two HB2.out b2); clear b2)
        go_ret3
        rw [HF2.out]
        exact ⟨rfl, HB3.out⟩
      · rw [if_pos ht] at hF
        have HF2 := Lib.hid hF; clear hF
        go_wp2_with (go_at_call 34; refine (HCALL.out _ HR2.out).mono ?_; rintro e w2 ⟨rfl, b2⟩; rw [ht]; have HB3 := Lib.hid (below_two HB2.out b2); have HO3 := Lib.hid (HO2.out.below b2); clear b2)
        go_ret3
        rw [HF2.out]
        exact ⟨_, rfl, ⟨cs, rfl, HO3.out⟩, HB3.out⟩
/-- spec.ReadModeTable. -/
theorem readModesS_any (ao : Option Addr) (n cap : Nat) (xs : List Int) (w : World) (hr : Rd w ao n xs) (hn : n ≤ 1048576) (hcap : n ≤ cap) (hcap2 : cap ≤ 9223372036854775807) :
    Calls Try.prog 31 #[.slice ao n cap] w (MakesM3 78 2 w (readModeTable xs).1 (readModeTable xs).2.1 (readModeTable xs).2.2) := by
  have HIB := Lib.hid (sIsBytes_any ao n cap xs w hr (by omega))
  rcases hby : isBytes xs with _ | _
  · have HF := Lib.hid (rm_range hby)
    rw [HF.out]
    clear hr
    go_enter Try.func31, Try.ntmps31
    go_wp2_with fail
    refine HIB.out.mono ?_
    rintro e w' ⟨rfl, rfl⟩
    rw [hby]
    go_wp2_with fail
    go_ret3
    exact ⟨_, rfl, OwnMs.nil_, Below.refl _ _⟩
  have hin := (isBytes_iff.1 hby).2
  have HC := Lib.hid (l11Read_any ao n cap xs w hr hn hcap hcap2 hin)
  clear hr hin
  rcases hp : readModes xs with _ | ⟨t, a⟩
  · have HF := Lib.hid (rm_none hby hp)
    rw [HF.out]
    go_enter Try.func31, Try.ntmps31
    go_wp2_with fail
    refine HIB.out.mono ?_
    rintro e w' ⟨rfl, rfl⟩
    rw [hby]
    go_wp2_with fail
    refine HC.out.mono ?_
    rintro e w1 hg
    rw [hp] at hg
    obtain ⟨rfl, b1⟩ := hg
    go_wp2_with fail
    go_ret3
    exact ⟨_, rfl, OwnMs.nil_, b1⟩
  · have HF := Lib.hid (rm_some hby hp)
    rw [HF.out]
    go_enter Try.func31, Try.ntmps31
    go_wp2_with fail
    refine HIB.out.mono ?_
    rintro e w' ⟨rfl, rfl⟩
    rw [hby]
    go_wp2_with fail
    refine HC.out.mono ?_
    rintro e w1 hg
    rw [hp] at hg
    obtain ⟨v, rfl, o1, b1⟩ := hg
    have O1 := Lib.hid o1; clear o1
    go_wp2_with fail
    go_ret3
    exact ⟨_, rfl, O1.out, b1⟩
/-- What is read is small. -/
theorem readModeTable_small (xs : List Int) : (readModeTable xs).1.length ≤ 1048576 ∧ mTot (readModeTable xs).1 ≤ 3145728 ∧ ∀ x ∈ (readModeTable xs).1, x.next.length ≤ 1048576 := by
  have h0 : ([] : List Md).length ≤ 1048576 ∧ mTot [] ≤ 3145728 ∧ ∀ x ∈ ([] : List Md), x.next.length ≤ 1048576 := ⟨by simp, by decide, fun _ h => by cases h⟩
  rcases hby : isBytes xs with _ | _
  · rw [rm_range hby]; exact h0
  · rcases hp : readModes xs with _ | ⟨t, a⟩
    · rw [rm_none hby hp]; exact h0
    · rw [rm_some hby hp]
      have h1 := (readModes_yes (fun x hx => ((isBytes_iff.1 hby).2 x hx).1) hp).1
      have h2 := (isModes_iff.1 h1).1
      have h3 := mTot_valid h1
      simp only at h1 h2 h3
      exact ⟨by simp only; omega, by simp only; omega, small_valid h1⟩
end Go.Proofs.Ytpedlofckbplmaa
