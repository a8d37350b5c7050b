/-
  Chapter 12: the model's reader: ReadSlotTable.
-/
import Derived.Test.YtggnoeeaoligdaaSL
import Derived.Test.YtggnoeeaoligdaaEigB
import Derived.Test.YtggnoeeaoligdaaRtA
import Derived.Test.YtggnoeeaoligdaaHl
namespace Go.Proofs.Ytggnoeeaoligdaa
open Go.RowKit

/-- What l12Read leaves. -/
def GotE (w : World) (o : Option (List Sl × Nat)) (e : Ending) (w' : World) : Prop :=
  match o with
  | some (t, a) => ∃ v, e = .returned (.tuple #[v, .int .i64 (a : Int), .bool true]) ∧ OwnE 38 w' w.heap.size v t ∧ Below w.heap.size w w'
  | none => ∃ v a, e = .returned (.tuple #[v, .int .i64 a, .bool false]) ∧ Below w.heap.size w w'
theorem sls_none {xs : List Int} {k : Nat} (h : slsTo xs k = none) : ∀ j, slsTo xs (k + j) = none
  | 0 => h
  | j + 1 => by rw [← Nat.add_assoc, slsTo, sls_none h j]; rfl
theorem rds_none {xs : List Int} {k : Nat} (h : slsTo xs k = none) (hk : k ≤ (xs.getD 0 0).toNat) : readSlots xs = none := by
  have h1 := sls_none h ((xs.getD 0 0).toNat - k)
  rw [show k + ((xs.getD 0 0).toNat - k) = (xs.getD 0 0).toNat from by omega] at h1
  unfold readSlots
  split
  · rfl
  · rw [h1]; rfl
theorem rds_tab {xs : List Int} {t : List Sl} (h0 : ¬ (xs.length = 0 ∨ xs.length < 1 + 7 * (xs.getD 0 0).toNat)) (h : slsTo xs (xs.getD 0 0).toNat = some t) : readSlots xs = if isSls t = true then some (t, 1 + 7 * (xs.getD 0 0).toNat) else none := by
  unfold readSlots
  rw [if_neg h0, h]; rfl
theorem sls_len {xs : List Int} : ∀ {k : Nat} {t : List Sl}, slsTo xs k = some t → t.length = k
  | 0, p, h => by cases h; rfl
  | k + 1, p, h => by
    rw [slsTo] at h
    obtain ⟨p0, h1, h2⟩ := Option.bind_eq_some_iff.1 h
    obtain ⟨q, h3, rfl⟩ := Option.map_eq_some_iff.1 h2
    rw [List.length_append, sls_len h1]; rfl
theorem rd_part {w : World} {b off n : Nat} {xs : List Int} (hc : ∀ i, i < n → w.cell? ⟨b, off + i, none⟩ = some (.int .i64 (xs.getD i 0))) (hl : xs.length = n) {a M : Nat} (h : a + M ≤ n) : Rd w (some ⟨b, off + a, none⟩) M ((xs.drop a).take M) :=
  ⟨by rw [List.length_take, List.length_drop]; omega, fun _ => ⟨b, off + a, rfl, fun i hi => by
    rw [Nat.add_assoc, hc (a + i) (by omega)]
    simp [List.getD, hi, List.getElem?_drop]⟩⟩
theorem five_of {ys : List Int} (h : ys.length = 5) : ∃ x0 x1 x2 x3 x4, ys = [x0, x1, x2, x3, x4] := by
  match ys, h with
  | [a, b, c, d, e], _ => exact ⟨a, b, c, d, e, rfl⟩
theorem descFrom_good {x0 x1 x2 x3 x4 : Int} (hb : isBytes [x0, x1, x2, x3, x4] = true) (h : (isDesc (descRead x0 x1 x2 x3 x4) && decide (descBytes (descRead x0 x1 x2 x3 x4) = [x0, x1, x2, x3, x4])) = true) : descFrom [x0, x1, x2, x3, x4] = (descRead x0 x1 x2 x3 x4, 0) := by
  rw [descFrom_bytes hb, if_pos (by simpa using h)]
theorem descFrom_ill {x0 x1 x2 x3 x4 : Int} (hb : isBytes [x0, x1, x2, x3, x4] = true) (h : (isDesc (descRead x0 x1 x2 x3 x4) && decide (descBytes (descRead x0 x1 x2 x3 x4) = [x0, x1, x2, x3, x4])) = false) : (descFrom [x0, x1, x2, x3, x4]).2 ≠ 0 := by
  rw [descFrom_bytes hb, if_neg (by intro hc; simp [hc.1, hc.2] at h)]
  simp

set_option maxHeartbeats 4000000 in
set_option maxRecDepth 100000 in
set_option linter.unusedSimpArgs false in
theorem l12Read_any (ao : Option Addr) (n cap : Nat) (xs : List Int) (w : World) (hr : Rd w ao n xs) (hn : n ≤ 1048576) (hcap : n ≤ cap) (_hcap2 : cap ≤ 9223372036854775807) (hby : ∀ x ∈ xs, 0 ≤ x ∧ x ≤ 255) :
    Calls Try.prog 85 #[.slice ao n cap] w (GotE w (readSlots xs)) := by
  have hl := hr.len
  by_cases h0 : n = 0
  · have hF : readSlots xs = none := by unfold readSlots; rw [if_pos (.inl (by omega))]
    rw [hF]
    have h0' : ((n : Int) == 0) = true := by rw [beq_iff_eq]; omega
    clear hr hF h0 hl
    go_enter Try.func85, Try.ntmps85
    go_wp2_with fail
    go_ret3
    exact ⟨_, _, rfl, Below.refl _ _⟩
  have h0' : ((n : Int) == 0) = false := by rw [beq_eq_false_iff_ne]; omega
  have hpni : (0 : Int) < (n : Int) := by omega
  obtain ⟨b, off, rfl, hc⟩ := hr.here (by omega)
  have hc0 := hc 0 (by omega)
  have hblt : b < w.heap.size := World.block_lt_of_cell? w _ hc0
  obtain ⟨N, hN⟩ : ∃ N : Nat, N = (xs.getD 0 0).toNat := ⟨_, rfl⟩
  have hn4 := bytes_at_rt hby 0
  have hN0 : xs.getD 0 0 = (N : Int) := by omega
  have hN1 : N ≤ 255 := by omega
  rw [hN0, Nat.add_zero] at hc0
  have hw1 : IntKind.i64.wrap (7 * (N : Int)) = 7 * (N : Int) := by rw [IntKind.wrap_i64]; omega
  have hw2 : IntKind.i64.wrap (1 + 7 * (N : Int)) = 1 + 7 * (N : Int) := by rw [IntKind.wrap_i64]; omega
  by_cases h7 : n < 1 + 7 * N
  · have hF : readSlots xs = none := by unfold readSlots; rw [if_pos (.inr (by rw [hl, ← hN]; exact h7))]
    rw [hF]
    have h7' : (n : Int) < 1 + 7 * (N : Int) := by omega
    clear hr hF h0 hl hc hN0 hN hn4
    go_enter Try.func85, Try.ntmps85
    go_wp2_with fail
    go_ret3
    exact ⟨_, _, rfl, Below.refl _ _⟩
  have h7' : ¬ (n : Int) < 1 + 7 * (N : Int) := by omega
  have h0x : ¬ (xs.length = 0 ∨ xs.length < 1 + 7 * (xs.getD 0 0).toNat) := by rw [hl, ← hN]; omega
  have HNONE := Lib.hid (fun k (h : slsTo xs k = none) (hk : k ≤ N) => rds_none h (by rw [← hN]; exact hk))
  have HTAB := Lib.hid (fun t (h : slsTo xs N = some t) => (by have h1 := rds_tab (t := t) h0x (by rw [← hN]; exact h); rw [← hN] at h1; exact h1 : readSlots xs = if isSls t = true then some (t, 1 + 7 * N) else none))
  have HCE := Lib.hid hc; have HBY := Lib.hid hby
  have HN7 := Lib.hid (show 1 + 7 * N ≤ n from by omega)
  have HLEN := Lib.hid hl
  have HC0 := Lib.hid (fun W (hW : Below w.heap.size w W) => (hW.cell (p := ⟨b, off, none⟩) hblt).trans hc0)
  clear hc hr hby hn4 hN0 hN h0 h0x h7 hl
  have hb0 : Below w.heap.size w (w.alloc (.cells #[] 38)) := (Below.refl _ _).alloc (Nat.le_refl _) _
  have HO0 := Lib.hid (OwnE.of_alloc_nil (E := 38) (w := w) (base := w.heap.size) (Nat.le_refl _))
  have HB0 := Lib.hid hb0; clear hb0
  go_enter Try.func85, Try.ntmps85
  go_wp2_with fail
  clear h0' h7' hc0
  go_loopw [5, 6] (fun s i wr => ∃ (k a : Nat) (v : Value) (t : List Sl), k ≤ N ∧ v = s ∧ i = .int .i64 (a : Int) ∧ Hid (a = 1 + 7 * k) ∧ Hid (slsTo xs k = some t) ∧ Hid (OwnE 38 wr w.heap.size v t) ∧ Hid (Below w.heap.size w wr)) (fun _ i _ => 1 + 7 * N - (intOf i).toNat)
  case atStart => exact ⟨0, 1, _, [], Nat.zero_le _, rfl, rfl, rfl, rfl, HO0.out, HB0.out⟩
  case round =>
    clear HO0 HB0
    obtain ⟨k, a, v, t, hk, rfl, rfl, HA, HT, HO, HB⟩ := hrel
    have hc0 := HC0.out _ HB.out
    by_cases hlt : k < N
    · have hal : (a : Int) < 1 + 7 * (N : Int) := by have := HA.out; omega
      have HAN := Lib.hid (show a + 7 ≤ n from by have := HA.out; have := HN7.out; omega)
      have HAB := Lib.hid (show a ≤ 2000 from by have := HA.out; omega)
      have hwa2 : IntKind.i64.wrap ((a : Int) + 2) = (a : Int) + 2 := by have := HAB.out; rw [IntKind.wrap_i64]; omega
      have hwa7 : IntKind.i64.wrap ((a : Int) + 7) = (a : Int) + 7 := by have := HAB.out; rw [IntKind.wrap_i64]; omega
      have l1 : (0 : Int) ≤ (a : Int) + 2 := by omega
      have l2 : (a : Int) + 2 ≤ (a : Int) + 7 := by omega
      have l3 : (a : Int) + 7 ≤ (cap : Int) := by have := HAN.out; omega
      have l4 : ((a : Int) + 2).toNat = a + 2 := by omega
      have l5 : ((a : Int) + 7).toNat = a + 7 := by omega
      have l6 : a + 7 - (a + 2) = 5 := by omega
      have HCW := Lib.hid (fun W (hW : Below w.heap.size w W) i (hi : i < n) => (hW.cell (p := ⟨b, off + i, none⟩) hblt).trans (HCE.out i hi))
      have hrd := rd_part (a := a + 2) (M := 5) (fun i hi => HCW.out _ HB.out i hi) HLEN.out (by have := HAN.out; omega)
      have hby5 : ∀ x ∈ (xs.drop (a + 2)).take 5, 0 ≤ x ∧ x ≤ 255 := fun x hx => HBY.out x (List.mem_of_mem_drop (List.mem_of_mem_take hx))
      have HT1 := Lib.hid (show slsTo xs (k + 1) = (slAt xs a).map fun x => t ++ [x] from by rw [slsTo, HT.out, HA.out]; rfl)
      have HAT := Lib.hid (show slAt xs a = if (descFrom ((xs.drop (a + 2)).take 5)).2 = 0 then some ⟨xs.getD a 0 / 16, xs.getD a 0 % 16, xs.getD (a + 1) 0, (descFrom ((xs.drop (a + 2)).take 5)).1⟩ else none from rfl)
      obtain ⟨x0, x1, x2, x3, x4, hx5⟩ := five_of (ys := (xs.drop (a + 2)).take 5) (by rw [List.length_take, List.length_drop, HLEN.out]; have := HAN.out; omega)
      rw [hx5] at hrd hby5 HAT
      have hb5 : isBytes [x0, x1, x2, x3, x4] = true := isBytes_iff.2 ⟨by simp, hby5⟩
      have HG := Lib.hid (descFrom_good hb5)
      have HI := Lib.hid (descFrom_ill hb5)
      have HCALL := Lib.hid (l08From_any b (off + (a + 2)) (cap - (a + 2)) x0 x1 x2 x3 x4 wr hrd hb5)
      obtain ⟨d, hd⟩ : ∃ d, d = descRead x0 x1 x2 x3 x4 := ⟨_, rfl⟩
      rw [← hd] at HG HI HCALL
      obtain ⟨c, hce⟩ : ∃ c, c = (isDesc d && decide (descBytes d = [x0, x1, x2, x3, x4])) := ⟨_, rfl⟩
      rw [← hce] at HG HI HCALL
      obtain ⟨D, hD⟩ : ∃ D, D = descFrom [x0, x1, x2, x3, x4] := ⟨_, rfl⟩
      rw [← hD] at HG HI HAT
      clear hd hce hD hx5 hrd hby5 hb5
      go_wp2_with fail
      refine HCALL.out.mono ?_
      rintro e w2 ⟨rfl, b2⟩
      have HB2 := Lib.hid (below_two HB.out b2)
      have HO2 := Lib.hid (HO.out.below b2)
      clear b2 HCALL hwa2 l1 l2 l3 l4 l5 l6 hal hc0
      rcases c with _ | _
      · have hF : readSlots xs = none := HNONE.out (k + 1) (by rw [HT1.out, HAT.out, if_neg (HI.out rfl)]; rfl) hlt
        have HF := Lib.hid hF
        have HBE := Lib.hid (HB2.out.alloc HB2.out.size (.cells #[.int .i64 d.node, .int .i64 d.kind, .int .i64 d.size, .int .i64 d.dur, .bool d.chg] 36))
        clear hF
        go_wp2_with fail
        go_ret3
        rw [HF.out]
        exact ⟨_, _, rfl, HBE.out⟩
      · have HDE := Lib.hid (HG.out rfl)
        have HT2 := Lib.hid (show slsTo xs (k + 1) = some (t ++ [⟨xs.getD a 0 / 16, xs.getD a 0 % 16, xs.getD (a + 1) 0, d⟩]) from by rw [HT1.out, HAT.out, HDE.out]; rfl)
        have bal := (Below.refl w2.heap.size w2).alloc (Nat.le_refl _) (.cells #[.int .i64 d.node, .int .i64 d.kind, .int .i64 d.size, .int .i64 d.dur, .bool d.chg] 36)
        have HV := Lib.hid (DescAt.new (T := 36) (n := d.node) (a := d.kind) (z := d.size) (u := d.dur) (c := d.chg) w2)
        have HB3 := Lib.hid (below_two HB2.out bal)
        have HO3 := Lib.hid (HO2.out.below bal)
        obtain ⟨y0, hy0⟩ : ∃ y, y = xs.getD a 0 := ⟨_, rfl⟩
        obtain ⟨y1, hy1⟩ : ∃ y, y = xs.getD (a + 1) 0 := ⟨_, rfl⟩
        have hyb := bytes_at_rt HBY.out a
        have HCA := Lib.hid (fun W (hW : Below w.heap.size w W) => (by rw [hy0]; exact HCW.out W hW a (by have := HAN.out; omega) : W.cell? ⟨b, off + a, none⟩ = some (.int .i64 y0)))
        have HCB := Lib.hid (fun W (hW : Below w.heap.size w W) => (by rw [hy1]; exact HCW.out W hW (a + 1) (by have := HAN.out; omega) : W.cell? ⟨b, off + (a + 1), none⟩ = some (.int .i64 y1)))
        rw [← hy0, ← hy1] at HT2
        rw [← hy0] at hyb
        clear bal HG HI HAT HT1 hy0 hy1 HDE
        go_upto_region 10 with fail
        generalize w2.alloc (.cells #[.int .i64 d.node, .int .i64 d.kind, .int .i64 d.size, .int .i64 d.dur, .bool d.chg] 36) = w3 at HV HB3 HO3 ⊢
        have hdv := fun (h : w2.heap.size < w3.heap.size) => h
        have hJ : w2.heap.size < w3.heap.size := HV.out.lt
        have HDW := Lib.hid (fun W (hW : Below w3.heap.size w3 W) => desc_cells (HV.out.below hW HV.out.lt))
        have bdr : Below w3.heap.size w3 w3.drew := Below.drew (Below.refl _ _)
        have HD := Lib.hid bdr
        have hai : (0 : Int) ≤ (a : Int) := by omega
        have han : (a : Int) < (n : Int) := by have := HAN.out; omega
        have ha1 : (a : Int) + 1 < (n : Int) := by have := HAN.out; omega
        have ha2 : IntKind.i64.wrap ((a : Int) + 1) = (a : Int) + 1 := by have := HAB.out; rw [IntKind.wrap_i64]; omega
        have ha3 : (0 : Int) ≤ (a : Int) + 1 := by omega
        have ha4 : ((a : Int) + 1).toNat = a + 1 := by omega
        have hq1 : IntKind.i64.wrap (y0 / 16) = y0 / 16 := by rw [IntKind.wrap_i64]; omega
        have hy0 : 0 ≤ y0 := hyb.1
        have htd : y0.tdiv 16 = y0 / 16 := by rw [Int.tdiv_eq_ediv_of_nonneg hy0]
        have htm : y0.tmod 16 = y0 % 16 := by rw [Int.tmod_eq_emod_of_nonneg hy0]
        clear bdr hdv
        refine wp_region_held_drew (S := fun w' => w'.cell? ⟨b, off + a, none⟩ = some (.int .i64 y0) ∧ w'.cell? ⟨b, off + (a + 1), none⟩ = some (.int .i64 y1) ∧ w'.cell? ⟨w2.heap.size, 0, none⟩ = some (.int .i64 d.node) ∧ w'.cell? ⟨w2.heap.size, 1, none⟩ = some (.int .i64 d.kind) ∧ w'.cell? ⟨w2.heap.size, 2, none⟩ = some (.int .i64 d.size) ∧ w'.cell? ⟨w2.heap.size, 3, none⟩ = some (.int .i64 d.dur) ∧ w'.cell? ⟨w2.heap.size, 4, none⟩ = some (.bool d.chg)) (by kernel_rfl) (⟨HCA.out _ (below_two HB3.out HD.out), HCB.out _ (below_two HB3.out HD.out), HDW.out _ HD.out⟩) (fun hHeld => ?_)
        generalize w3.drew = w4 at HD hHeld ⊢
        refine wpAnyH_take (i := 0) (v := ?_) rfl (by kernel_rfl) (by kernel_rfl) (by kernel_rfl) (fun _ _ _ h => h) (Or.inl ⟨by rfl, ?_⟩) (by assumption) ?_
        rotate_left
        · (intro w hSw; (try dsimp only at hSw); go_simp; (try with_reducible rfl))
        try simp only [List.getElem_toArray, List.getElem_cons_succ, List.getElem_cons_zero, Act.put, List.setIfInBounds_toArray, List.set_cons_zero, List.set_cons_succ]
        refine wpAnyH_take (i := 1) (v := ?_) rfl (by kernel_rfl) (by kernel_rfl) (by kernel_rfl) (fun _ _ _ h => h) (Or.inl ⟨by rfl, ?_⟩) (by assumption) ?_
        rotate_left
        · (intro w hSw; (try dsimp only at hSw); go_simp; (try with_reducible rfl))
        try simp only [List.getElem_toArray, List.getElem_cons_succ, List.getElem_cons_zero, Act.put, List.setIfInBounds_toArray, List.set_cons_zero, List.set_cons_succ]
        refine wpAnyH_take (i := 2) (v := ?_) rfl (by kernel_rfl) (by kernel_rfl) (by kernel_rfl) (fun _ _ _ h => h) (Or.inl ⟨by rfl, ?_⟩) (by assumption) ?_
        rotate_left
        · (intro w hSw; (try dsimp only at hSw); go_simp; (try with_reducible rfl))
        try simp only [List.getElem_toArray, List.getElem_cons_succ, List.getElem_cons_zero, Act.put, List.setIfInBounds_toArray, List.set_cons_zero, List.set_cons_succ]
        refine wpAnyH_take (i := 3) (v := ?_) rfl (by kernel_rfl) (by kernel_rfl) (by kernel_rfl) (fun _ _ _ h => h) (Or.inl ⟨by rfl, ?_⟩) (by assumption) ?_
        rotate_left
        · (intro w hSw; (try dsimp only at hSw); go_simp; (try with_reducible rfl))
        try simp only [List.getElem_toArray, List.getElem_cons_succ, List.getElem_cons_zero, Act.put, List.setIfInBounds_toArray, List.set_cons_zero, List.set_cons_succ]
        refine wpAnyH_take (i := 4) (v := ?_) rfl (by kernel_rfl) (by kernel_rfl) (by kernel_rfl) (fun _ _ _ h => h) (Or.inl ⟨by rfl, ?_⟩) (by assumption) ?_
        rotate_left
        · (intro w hSw; (try dsimp only at hSw); go_simp; (try with_reducible rfl))
        try simp only [List.getElem_toArray, List.getElem_cons_succ, List.getElem_cons_zero, Act.put, List.setIfInBounds_toArray, List.set_cons_zero, List.set_cons_succ]
        refine wpAnyH_take (i := 5) (v := ?_) rfl (by kernel_rfl) (by kernel_rfl) (by kernel_rfl) (fun _ _ _ h => h) (Or.inl ⟨by rfl, ?_⟩) (by assumption) ?_
        rotate_left
        · (intro w hSw; (try dsimp only at hSw); go_simp; (try with_reducible rfl))
        try simp only [List.getElem_toArray, List.getElem_cons_succ, List.getElem_cons_zero, Act.put, List.setIfInBounds_toArray, List.set_cons_zero, List.set_cons_succ]
        refine wpAnyH_take (i := 6) (v := ?_) rfl (by kernel_rfl) (by kernel_rfl) (by kernel_rfl) (fun _ _ _ h => h) (Or.inl ⟨by rfl, ?_⟩) (by assumption) ?_
        rotate_left
        · (intro w hSw; (try dsimp only at hSw); go_simp; (try with_reducible rfl))
        try simp only [List.getElem_toArray, List.getElem_cons_succ, List.getElem_cons_zero, Act.put, List.setIfInBounds_toArray, List.set_cons_zero, List.set_cons_succ]
        refine wpAnyH_take (i := 7) (v := ?_) rfl (by kernel_rfl) (by kernel_rfl) (by kernel_rfl) (fun _ _ _ h => h) (Or.inl ⟨by rfl, ?_⟩) (by assumption) ?_
        rotate_left
        · (intro w hSw; (try dsimp only at hSw); go_simp; (try with_reducible rfl))
        try simp only [List.getElem_toArray, List.getElem_cons_succ, List.getElem_cons_zero, Act.put, List.setIfInBounds_toArray, List.set_cons_zero, List.set_cons_succ]
        refine wpAnyH_take (i := 8) (v := ?_) rfl (by kernel_rfl) (by kernel_rfl) (by kernel_rfl) (fun _ _ _ h => h) (Or.inl ⟨by rfl, ?_⟩) (by assumption) ?_
        rotate_left
        · (intro w hSw; (try dsimp only at hSw); go_simp; (try with_reducible rfl))
        try simp only [List.getElem_toArray, List.getElem_cons_succ, List.getElem_cons_zero, Act.put, List.setIfInBounds_toArray, List.set_cons_zero, List.set_cons_succ]
        refine wpAnyH_take (i := 9) (v := ?_) rfl (by kernel_rfl) (by kernel_rfl) (by kernel_rfl) (fun _ _ _ h => h) (Or.inl ⟨by rfl, ?_⟩) (by assumption) ?_
        rotate_left
        · (intro w hSw; (try dsimp only at hSw); go_simp; (try with_reducible rfl))
        try simp only [List.getElem_toArray, List.getElem_cons_succ, List.getElem_cons_zero, Act.put, List.setIfInBounds_toArray, List.set_cons_zero, List.set_cons_succ]
        refine wpAnyH_take (i := 10) (v := ?_) rfl (by kernel_rfl) (by kernel_rfl) (by kernel_rfl) (fun _ _ _ h => h) (Or.inl ⟨by rfl, ?_⟩) (by assumption) ?_
        rotate_left
        · (intro w hSw; (try dsimp only at hSw); go_simp; (try with_reducible rfl))
        try simp only [List.getElem_toArray, List.getElem_cons_succ, List.getElem_cons_zero, Act.put, List.setIfInBounds_toArray, List.set_cons_zero, List.set_cons_succ]
        refine wpAnyH_take (i := 11) (v := ?_) rfl (by kernel_rfl) (by kernel_rfl) (by kernel_rfl) (fun _ _ _ h => h) (Or.inl ⟨by rfl, ?_⟩) (by assumption) ?_
        rotate_left
        · (intro w hSw; (try dsimp only at hSw); go_simp; (try with_reducible rfl))
        try simp only [List.getElem_toArray, List.getElem_cons_succ, List.getElem_cons_zero, Act.put, List.setIfInBounds_toArray, List.set_cons_zero, List.set_cons_succ]
        refine wpAnyH_take (i := 12) (v := ?_) rfl (by kernel_rfl) (by kernel_rfl) (by kernel_rfl) (fun _ _ _ h => h) (Or.inl ⟨by rfl, ?_⟩) (by assumption) ?_
        rotate_left
        · (intro w hSw; (try dsimp only at hSw); go_simp; (try with_reducible rfl))
        try simp only [List.getElem_toArray, List.getElem_cons_succ, List.getElem_cons_zero, Act.put, List.setIfInBounds_toArray, List.set_cons_zero, List.set_cons_succ]
        refine wpAnyH_take (i := 13) (v := ?_) rfl (by kernel_rfl) (by kernel_rfl) (by kernel_rfl) (fun _ _ _ h => h) (Or.inl ⟨by rfl, ?_⟩) (by assumption) ?_
        rotate_left
        · (intro w hSw; (try dsimp only at hSw); go_simp; (try with_reducible rfl))
        try simp only [List.getElem_toArray, List.getElem_cons_succ, List.getElem_cons_zero, Act.put, List.setIfInBounds_toArray, List.set_cons_zero, List.set_cons_succ]
        refine wpAnyH_take (i := 14) (v := ?_) rfl (by kernel_rfl) (by kernel_rfl) (by kernel_rfl) (fun _ _ _ h => h) (Or.inl ⟨by rfl, ?_⟩) (by assumption) ?_
        rotate_left
        · (intro w hSw; (try dsimp only at hSw); go_simp; (try with_reducible rfl))
        try simp only [List.getElem_toArray, List.getElem_cons_succ, List.getElem_cons_zero, Act.put, List.setIfInBounds_toArray, List.set_cons_zero, List.set_cons_succ]
        refine wpAnyH_take (i := 15) (v := ?_) rfl (by kernel_rfl) (by kernel_rfl) (by kernel_rfl) (fun _ _ _ h => h) (Or.inl ⟨by rfl, ?_⟩) (by assumption) ?_
        rotate_left
        · (intro w hSw; (try dsimp only at hSw); go_simp; (try with_reducible rfl))
        try simp only [List.getElem_toArray, List.getElem_cons_succ, List.getElem_cons_zero, Act.put, List.setIfInBounds_toArray, List.set_cons_zero, List.set_cons_succ]
        refine wpAnyH_take (i := 16) (v := ?_) rfl (by kernel_rfl) (by kernel_rfl) (by kernel_rfl) (fun _ _ _ h => h) (Or.inl ⟨by rfl, ?_⟩) (by assumption) ?_
        rotate_left
        · (intro w hSw; (try dsimp only at hSw); go_simp; (try with_reducible rfl))
        try simp only [List.getElem_toArray, List.getElem_cons_succ, List.getElem_cons_zero, Act.put, List.setIfInBounds_toArray, List.set_cons_zero, List.set_cons_succ]
        refine wpAnyH_take (i := 17) (v := ?_) rfl (by kernel_rfl) (by kernel_rfl) (by kernel_rfl) (fun _ _ _ h => h) (Or.inl ⟨by rfl, ?_⟩) (by assumption) ?_
        rotate_left
        · (intro w hSw; (try dsimp only at hSw); go_simp; (try with_reducible rfl))
        try simp only [List.getElem_toArray, List.getElem_cons_succ, List.getElem_cons_zero, Act.put, List.setIfInBounds_toArray, List.set_cons_zero, List.set_cons_succ]
        refine wpAnyH_ready (rs := [18]) (by kernel_rfl) (by simp) (AllReadyH.cons rfl (fun K hK => ?_) AllReadyH.nil)
        go_simp
        have HIN := Lib.hid (show SlIn (w4.alloc (.cells #[.int .i64 (y0 / 16), .int .i64 (y0 % 16), .int .i64 y1, .int .i64 d.node, .int .i64 d.kind, .int .i64 d.size, .int .i64 d.dur, .bool d.chg] 38)) w4.heap.size 0 ⟨y0 / 16, y0 % 16, y1, d⟩ from (SlBk.new (T := 38) (x := ⟨y0 / 16, y0 % 16, y1, d⟩) w4).in_)
        have HD5 := Lib.hid (HD.out.alloc HD.out.size (.cells #[.int .i64 (y0 / 16), .int .i64 (y0 % 16), .int .i64 y1, .int .i64 d.node, .int .i64 d.kind, .int .i64 d.size, .int .i64 d.dur, .bool d.chg] 38))
        have HO5 := Lib.hid (HO3.out.below HD5.out)
        have HB5 := Lib.hid (below_two HB3.out HD5.out)
        refine hK.out _ _ ?_ (fun hHeld => ?_)
        · exact ⟨HCA.out _ (below_two HB3.out HD5.out), HCB.out _ (below_two HB3.out HD5.out), HDW.out _ HD5.out⟩
        clear hK K
        try simp only [List.getElem_toArray, List.getElem_cons_succ, List.getElem_cons_zero, Act.put, List.setIfInBounds_toArray, List.set_cons_zero, List.set_cons_succ]
        refine wpAnyH_ready (rs := [19]) (by kernel_rfl) (by simp) (AllReadyH.cons rfl (fun K hK => ?_) AllReadyH.nil)
        refine app_sl _ (.tmp 44) (.tmp 62) rfl w.heap.size Try.underlying24 infoSl v t rfl HO5.out w4.heap.size 0 ⟨y0 / 16, y0 % 16, y1, d⟩ 1 rfl HIN.out (by have := sls_len HT.out; omega) HB5.out.size ?_
        intro v6 w6 o6 g6
        have HO6 := Lib.hid o6
        have HB6 := Lib.hid (HB5.out.grown g6 HB5.out.size (fun q hq => (HO5.out.block q hq).1))
        have HDW6 := Lib.hid (show DescAt 36 w6 w2.heap.size d.node d.kind d.size d.dur d.chg from (HV.out.below HD5.out HV.out.lt).grown g6 (by intro e; have := (HO2.out.block _ e.symm).2; omega))
        clear o6 g6
        refine hK.out _ _ ?_ (fun hHeld => ?_)
        · exact ⟨HCA.out _ HB6.out, HCB.out _ HB6.out, desc_cells HDW6.out⟩
        clear hK K
        try simp only [List.getElem_toArray, List.getElem_cons_succ, List.getElem_cons_zero, Act.put, List.setIfInBounds_toArray, List.set_cons_zero, List.set_cons_succ]
        refine wpAnyH_take (i := 20) (v := ?_) rfl (by kernel_rfl) (by kernel_rfl) (by kernel_rfl) (fun _ _ _ h => h) (Or.inl ⟨by rfl, ?_⟩) (by assumption) ?_
        rotate_left
        · (intro w hSw; (try dsimp only at hSw); go_simp; (try with_reducible rfl))
        try simp only [List.getElem_toArray, List.getElem_cons_succ, List.getElem_cons_zero, Act.put, List.setIfInBounds_toArray, List.set_cons_zero, List.set_cons_succ]
        refine wpAnyH_done (by kernel_rfl) ?_ _
        clear hai han ha1 ha2 ha3 ha4 hq1 htd htm hy0 hyb hJ
        have hab := HAB.out
        go_wp2_with fail
        go_roundw
        case rel => exact ⟨k + 1, a + 7, v6, _, by omega, rfl, by go_num, (show a + 7 = 1 + 7 * (k + 1) by have := HA.out; omega), HT2, HO6, HB6⟩
        case measure => have := HA.out; simp [intOf]; omega
    · have hkn : k = N := by omega
      subst hkn
      have hal : ¬ (a : Int) < 1 + 7 * (k : Int) := by have := HA.out; omega
      obtain ⟨ao', cap', e1, r1, -⟩ := HO.out.form
      subst e1
      have hts := sls_len HT.out
      have HSL := Lib.hid (fun W (hW : Below wr.heap.size wr W) => isSlsS_any ao' t.length cap' t W (r1.below hW) (by omega))
      have HTT := Lib.hid (HTAB.out t HT.out)
      clear r1 hts
      go_upto_region 11 with fail
      clear hal
      have bdr : Below wr.heap.size wr wr.drew := Below.drew (Below.refl _ _)
      have HD := Lib.hid bdr
      have HOB := Lib.hid (fun W (hW : Below wr.heap.size wr W) => And.intro (HO.out.below hW) (below_two HB.out hW))
      have hpn : 0 < n := by omega
      clear bdr hc0
      refine wp_region_held_drew (S := fun w' => w'.cell? ⟨b, off, none⟩ = some (.int .i64 (k : Int))) (by kernel_rfl) (HC0.out _ (HOB.out _ HD.out).2) (fun hHeld => ?_)
      generalize wr.drew = w2 at HD hHeld ⊢
      refine wpAnyH_take (i := 0) (v := ?_) rfl (by kernel_rfl) (by kernel_rfl) (by kernel_rfl) (fun _ _ _ h => h) (Or.inl ⟨by rfl, ?_⟩) (by assumption) ?_
      rotate_left
      · (intro w hSw; (try dsimp only at hSw); go_simp; (try with_reducible rfl))
      try simp only [List.getElem_toArray, List.getElem_cons_succ, List.getElem_cons_zero, Act.put, List.setIfInBounds_toArray, List.set_cons_zero, List.set_cons_succ]
      refine wpAnyH_take (i := 1) (v := ?_) rfl (by kernel_rfl) (by kernel_rfl) (by kernel_rfl) (fun _ _ _ h => h) (Or.inl ⟨by rfl, ?_⟩) (by assumption) ?_
      rotate_left
      · (intro w hSw; (try dsimp only at hSw); go_simp; (try with_reducible rfl))
      try simp only [List.getElem_toArray, List.getElem_cons_succ, List.getElem_cons_zero, Act.put, List.setIfInBounds_toArray, List.set_cons_zero, List.set_cons_succ]
      refine wpAnyH_take (i := 2) (v := ?_) rfl (by kernel_rfl) (by kernel_rfl) (by kernel_rfl) (fun _ _ _ h => h) (Or.inl ⟨by rfl, ?_⟩) (by assumption) ?_
      rotate_left
      · (intro w hSw; (try dsimp only at hSw); go_simp; (try with_reducible rfl))
      try simp only [List.getElem_toArray, List.getElem_cons_succ, List.getElem_cons_zero, Act.put, List.setIfInBounds_toArray, List.set_cons_zero, List.set_cons_succ]
      refine wpAnyH_take (i := 3) (v := ?_) rfl (by kernel_rfl) (by kernel_rfl) (by kernel_rfl) (fun _ _ _ h => h) (Or.inl ⟨by rfl, ?_⟩) (by assumption) ?_
      rotate_left
      · (intro w hSw; (try dsimp only at hSw); go_simp; (try with_reducible rfl))
      try simp only [List.getElem_toArray, List.getElem_cons_succ, List.getElem_cons_zero, Act.put, List.setIfInBounds_toArray, List.set_cons_zero, List.set_cons_succ]
      refine wpAnyH_take (i := 4) (v := ?_) rfl (by kernel_rfl) (by kernel_rfl) (by kernel_rfl) (fun _ _ _ h => h) (Or.inl ⟨by rfl, ?_⟩) (by assumption) ?_
      rotate_left
      · (intro w hSw; (try dsimp only at hSw); go_simp; (try with_reducible rfl))
      try simp only [List.getElem_toArray, List.getElem_cons_succ, List.getElem_cons_zero, Act.put, List.setIfInBounds_toArray, List.set_cons_zero, List.set_cons_succ]
      refine wpAnyH_take (i := 5) (v := ?_) rfl (by kernel_rfl) (by kernel_rfl) (by kernel_rfl) (fun _ _ _ h => h) (Or.inl ⟨by rfl, ?_⟩) (by assumption) ?_
      rotate_left
      · (intro w hSw; (try dsimp only at hSw); go_simp; (try with_reducible rfl))
      try simp only [List.getElem_toArray, List.getElem_cons_succ, List.getElem_cons_zero, Act.put, List.setIfInBounds_toArray, List.set_cons_zero, List.set_cons_succ]
      refine wpAnyH_take (i := 6) (v := ?_) rfl (by kernel_rfl) (by kernel_rfl) (by kernel_rfl) (fun _ _ _ h => h) (Or.inl ⟨by rfl, ?_⟩) (by assumption) ?_
      rotate_left
      · (intro w hSw; (try dsimp only at hSw); go_simp; (try with_reducible rfl))
      try simp only [List.getElem_toArray, List.getElem_cons_succ, List.getElem_cons_zero, Act.put, List.setIfInBounds_toArray, List.set_cons_zero, List.set_cons_succ]
      refine wpAnyH_ready (rs := [7]) (by kernel_rfl) (by simp) (AllReadyH.cons rfl (fun K hK => ?_) AllReadyH.nil)
      go_simp
      refine (HSL.out _ HD.out).mono ?_
      rintro e w3 ⟨rfl, b3⟩
      have HD3 := Lib.hid (below_two HD.out b3); clear b3
      go_wp2_with fail
      refine hK.out _ _ ?_ (fun hHeld => ?_)
      · exact HC0.out _ (HOB.out _ HD3.out).2
      clear hK K
      try simp only [List.getElem_toArray, List.getElem_cons_succ, List.getElem_cons_zero, Act.put, List.setIfInBounds_toArray, List.set_cons_zero, List.set_cons_succ]
      refine wpAnyH_take (i := 8) (v := ?_) rfl (by kernel_rfl) (by kernel_rfl) (by kernel_rfl) (fun _ _ _ h => h) (Or.inl ⟨by rfl, ?_⟩) (by assumption) ?_
      rotate_left
      · (intro w hSw; (try dsimp only at hSw); go_simp; (try with_reducible rfl))
      try simp only [List.getElem_toArray, List.getElem_cons_succ, List.getElem_cons_zero, Act.put, List.setIfInBounds_toArray, List.set_cons_zero, List.set_cons_succ]
      refine wpAnyH_take (i := 9) (v := ?_) rfl (by kernel_rfl) (by kernel_rfl) (by kernel_rfl) (fun _ _ _ h => h) (Or.inl ⟨by rfl, ?_⟩) (by assumption) ?_
      rotate_left
      · (intro w hSw; (try dsimp only at hSw); go_simp; (try with_reducible rfl))
      try simp only [List.getElem_toArray, List.getElem_cons_succ, List.getElem_cons_zero, Act.put, List.setIfInBounds_toArray, List.set_cons_zero, List.set_cons_succ]
      refine wpAnyH_take (i := 10) (v := ?_) rfl (by kernel_rfl) (by kernel_rfl) (by kernel_rfl) (fun _ _ _ h => h) (Or.inl ⟨by rfl, ?_⟩) (by assumption) ?_
      rotate_left
      · (intro w hSw; (try dsimp only at hSw); go_simp; (try with_reducible rfl))
      try simp only [List.getElem_toArray, List.getElem_cons_succ, List.getElem_cons_zero, Act.put, List.setIfInBounds_toArray, List.set_cons_zero, List.set_cons_succ]
      refine wpAnyH_done (by kernel_rfl) ?_ _
      go_wp2_with fail
      go_ret3
      rw [HTT.out]
      obtain ⟨o3, b3⟩ := HOB.out _ HD3.out
      rcases isSls t with _ | _
      · rw [if_neg (by simp)]
        exact ⟨_, _, rfl, b3⟩
      · rw [if_pos rfl]
        exact ⟨_, rfl, o3, b3⟩
theorem rsS_range {xs : List Int} (h : isBytes xs = false) : readSlotTable xs = ([], 0, 2) := by unfold readSlotTable; rw [if_pos h]
theorem rsS_none {xs : List Int} (h : isBytes xs = true) (h2 : readSlots xs = none) : readSlotTable xs = ([], 0, 6) := by unfold readSlotTable; rw [if_neg (by rw [h]; simp), h2]
theorem rsS_some {xs : List Int} {t : List Sl} {a : Nat} (h : isBytes xs = true) (h2 : readSlots xs = some (t, a)) : readSlotTable xs = (t, (a : Int), 0) := by unfold readSlotTable; rw [if_neg (by rw [h]; simp), h2]
set_option maxRecDepth 100000 in
set_option maxHeartbeats 1000000 in
theorem readSlotsS_any (ao : Option Addr) (n cap : Nat) (xs : List Int) (w : World) (hr : Rd w ao n xs) (hn : n ≤ 1048576) (hcap : n ≤ cap) (hcap2 : cap ≤ 9223372036854775807) :
    Calls Try.prog 23 #[.slice ao n cap] w (MakesE3 38 w (readSlotTable xs).1 (readSlotTable xs).2.1 (readSlotTable xs).2.2) := by
  have HIB := Lib.hid (sIsBytes_any ao n cap xs w hr (by omega))
  rcases hby : isBytes xs with _ | _
  · have HF := Lib.hid (rsS_range hby)
    rw [HF.out]
    clear hr
    go_enter Try.func23, Try.ntmps23
    go_wp2_with fail
    refine HIB.out.mono ?_
    rintro e w1 ⟨rfl, rfl⟩
    rw [hby]
    go_wp2_with fail
    go_ret3
    exact ⟨_, rfl, OwnE.nil_, Below.refl _ _⟩
  have HR := Lib.hid (fun W (hW : Below w.heap.size w W) => l12Read_any ao n cap xs W (hr.below hW) hn hcap hcap2 (isBytes_iff.1 hby).2)
  rcases hp : readSlots xs with _ | ⟨t, a⟩
  · have HF := Lib.hid (rsS_none hby hp)
    rw [HF.out]
    rw [hp] at HR
    clear hr
    go_enter Try.func23, Try.ntmps23
    go_wp2_with fail
    refine HIB.out.mono ?_
    rintro e w1 ⟨rfl, rfl⟩
    rw [hby]
    go_wp2_with fail
    refine (HR.out _ (Below.refl _ _)).mono ?_
    rintro e w2 ⟨v, x, rfl, b2⟩
    go_wp2_with fail
    go_ret3
    exact ⟨_, rfl, OwnE.nil_, b2⟩
  · have HF := Lib.hid (rsS_some hby hp)
    rw [HF.out]
    rw [hp] at HR
    clear hr
    go_enter Try.func23, Try.ntmps23
    go_wp2_with fail
    refine HIB.out.mono ?_
    rintro e w1 ⟨rfl, rfl⟩
    rw [hby]
    go_wp2_with fail
    refine (HR.out _ (Below.refl _ _)).mono ?_
    rintro e w2 ⟨v, rfl, o2, b2⟩
    go_wp2_with fail
    go_ret3
    exact ⟨_, rfl, o2, b2⟩
end Go.Proofs.Ytggnoeeaoligdaa
