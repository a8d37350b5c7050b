/-
  Chapter 12: slices.BinarySearchFunc over a slot table.
-/
import Derived.Test.YtggnoeeaoligdaaSL
namespace Go.Proofs.Ytggnoeeaoligdaa
open Go.RowKit

set_option maxRecDepth 100000 in
theorem closure_any (x y : Sl) (w : World) : Calls Try.prog 91 #[slVal x, slVal y] w fun e w' => e = .returned (.int .i64 (cmpSl x y)) ∧ Below w.heap.size w w' := by
  have HT := Lib.hid (two_sl w x y)
  have HB := Lib.hid (show Below w.heap.size w ((w.alloc (.cells #[.int .i64 x.mode, .int .i64 x.round, .int .i64 x.slot, .int .i64 x.desc.node, .int .i64 x.desc.kind, .int .i64 x.desc.size, .int .i64 x.desc.dur, .bool x.desc.chg] 38)).alloc (.cells #[.int .i64 y.mode, .int .i64 y.round, .int .i64 y.slot, .int .i64 y.desc.node, .int .i64 y.desc.kind, .int .i64 y.desc.size, .int .i64 y.desc.dur, .bool y.desc.chg] 38)) from below_two ((Below.refl _ _).alloc (Nat.le_refl _) _) ((Below.refl _ _).alloc (Nat.le_refl _) _))
  have HC := Lib.hid (fun W => cmpSlI_any x y W)
  unfold slVal at HC ⊢
  go_enter Try.func91, Try.ntmps91
  go_upto_region 1 with fail
  generalize (w.alloc (.cells #[.int .i64 x.mode, .int .i64 x.round, .int .i64 x.slot, .int .i64 x.desc.node, .int .i64 x.desc.kind, .int .i64 x.desc.size, .int .i64 x.desc.dur, .bool x.desc.chg] 38)).alloc (.cells #[.int .i64 y.mode, .int .i64 y.round, .int .i64 y.slot, .int .i64 y.desc.node, .int .i64 y.desc.kind, .int .i64 y.desc.size, .int .i64 y.desc.dur, .bool y.desc.chg] 38) = w1 at HT HB ⊢
  obtain ⟨q0, q1, q2, q3, q4, q5, q6, q7⟩ := HT.out.a.all8
  obtain ⟨r0, r1, r2, r3, r4, r5, r6, r7⟩ := HT.out.b.all8
  go_wp2_with fail
  refine (HC.out _).mono ?_
  rintro e w2 ⟨rfl, b2⟩
  have HB2 := Lib.hid (below_two HB.out b2)
  clear b2 q0 q1 q2 q3 q4 q5 q6 q7 r0 r1 r2 r3 r4 r5 r6 r7
  go_wp2_with fail
  go_ret
  exact ⟨rfl, HB2.out⟩
/-- How many entries stand ahead of x. -/
theorem before_count {t : List Sl} {x : Sl} {c : Nat} (hc : c ≤ t.length) (h1 : ∀ q, q < c → cmpSl (slOf t q) x < 0) (h2 : ∀ q, c ≤ q → q < t.length → 0 ≤ cmpSl (slOf t q) x) : before t x = t.take c ∧ ((∀ y ∈ t, cmpSl y x ≠ 0) → behind t x = t.drop c) := by
  have e : t = t.take c ++ t.drop c := (List.take_append_drop c t).symm
  have m1 : ∀ y ∈ t.take c, cmpSl y x < 0 := fun y hy => by
    obtain ⟨i, hi, rfl⟩ := List.getElem_of_mem hy
    rw [List.length_take] at hi
    rw [List.getElem_take, ← slOf_get (by omega)]
    exact h1 i (by omega)
  have m2 : ∀ y ∈ t.drop c, 0 ≤ cmpSl y x := fun y hy => by
    obtain ⟨i, hi, rfl⟩ := List.getElem_of_mem hy
    rw [List.length_drop] at hi
    rw [List.getElem_drop, ← slOf_get (by omega)]
    exact h2 (c + i) (by omega) (by omega)
  refine ⟨?_, fun hne => ?_⟩
  · unfold before
    conv => lhs; rw [e]
    rw [List.filter_append, List.filter_eq_self.2 (fun y hy => by simpa using m1 y hy), List.filter_eq_nil_iff.2 (fun y hy => by simpa using m2 y hy), List.append_nil]
  · unfold behind
    conv => lhs; rw [e]
    rw [List.filter_append, List.filter_eq_nil_iff.2 (fun y hy => by have := m1 y hy; simp; omega), List.filter_eq_self.2 (fun y hy => by have h3 := m2 y hy; have h4 := hne y (List.mem_of_mem_drop hy); simp; omega), List.nil_append]
theorem sls_mono {t : List Sl} {x : Sl} (hs : isSls t = true) {a b : Nat} (hab : a ≤ b) (hb : b < t.length) (h : cmpSl (slOf t b) x < 0) : cmpSl (slOf t a) x < 0 := by
  rcases Nat.lt_or_ge a b with hl | hl
  · have h3 := (isSls_iff.1 hs).2.2
    have := List.pairwise_iff_getElem.1 h3 a b (by omega) hb hl
    rw [← slOf_get (by omega), ← slOf_get hb] at this
    exact cmp_trans this h
  · rw [show a = b from by omega]; exact h
set_option maxRecDepth 100000 in
set_option maxHeartbeats 4000000 in
set_option linter.unusedSimpArgs false in
theorem search_any (ao : Option Addr) (n cap : Nat) (t : List Sl) (x : Sl) (w : World) (hr : RdE w ao n t) (hn : n ≤ 1048576) (hs : isSls t = true) :
    Calls Try.prog 90 #[.slice ao n cap, slVal x, .func (.func 91) #[] #[]] w fun e w' => ∃ (c : Nat) (f : Value), e = .returned (.tuple #[.int .i64 (c : Int), f]) ∧ c ≤ n ∧ (∀ q, q < c → cmpSl (slOf t q) x < 0) ∧ (∀ q, c ≤ q → q < n → 0 ≤ cmpSl (slOf t q) x) ∧ Below w.heap.size w w' := by
  have b0 := (Below.refl w.heap.size w).alloc (Nat.le_refl _) (.cells #[.int .i64 x.mode, .int .i64 x.round, .int .i64 x.slot, .int .i64 x.desc.node, .int .i64 x.desc.kind, .int .i64 x.desc.size, .int .i64 x.desc.dur, .bool x.desc.chg] 38)
  have HX := Lib.hid (SlBk.new (T := 38) (x := x) w)
  have HR := Lib.hid hr
  have HL := Lib.hid hr.len
  have HB := Lib.hid b0
  have HS := Lib.hid hs
  have HC := Lib.hid (fun y W => closure_any y x W)
  unfold slVal at HC ⊢
  have hlt0 : w.heap.size < (w.alloc (.cells #[.int .i64 x.mode, .int .i64 x.round, .int .i64 x.slot, .int .i64 x.desc.node, .int .i64 x.desc.kind, .int .i64 x.desc.size, .int .i64 x.desc.dur, .bool x.desc.chg] 38)).heap.size := by simp
  clear hr b0 hs
  go_enter Try.func90, Try.ntmps90
  go_wp2_with fail
  generalize w.alloc (.cells #[.int .i64 x.mode, .int .i64 x.round, .int .i64 x.slot, .int .i64 x.desc.node, .int .i64 x.desc.kind, .int .i64 x.desc.size, .int .i64 x.desc.dur, .bool x.desc.chg] 38) = w1 at HX HB hlt0 ⊢
  go_loopw [9, 10] (fun s9 s10 wr => ∃ lo hi : Nat, s9 = .int .i64 lo ∧ s10 = .int .i64 hi ∧ lo ≤ hi ∧ hi ≤ n ∧ Hid (Below w1.heap.size w1 wr) ∧ Hid (∀ q, q < lo → cmpSl (slOf t q) x < 0) ∧ Hid (∀ q, hi ≤ q → q < n → 0 ≤ cmpSl (slOf t q) x)) (fun s9 s10 _ => (intOf s10).toNat - (intOf s9).toNat)
  case atStart => exact ⟨0, n, rfl, rfl, Nat.zero_le _, Nat.le_refl _, Below.refl _ _, fun q h => absurd h (by omega), fun q h1 h2 => absurd h1 (by omega)⟩
  case round =>
    obtain ⟨lo, hi, rfl, rfl, hlh, hin, HBR, HLO, HHI⟩ := hrel
    have HXR := Lib.hid (HX.out.below HBR.out HX.out.lt)
    by_cases hlt : lo < hi
    · obtain ⟨md, hmd⟩ : ∃ md, md = (lo + hi) / 2 := ⟨_, rfl⟩
      have hm1 : lo ≤ md := by omega
      have hm2 : md < hi := by omega
      have hmn : md < n := by omega
      obtain ⟨b, off, e0, hg, hx⟩ := HR.out.at hmn
      subst e0
      have HY := Lib.hid ((hx.below HB.out hg).below HBR.out (by have := HB.out.size; omega))
      have HGO := Lib.hid (fun (h : cmpSl (slOf t md) x < 0) q (hq : q < md + 1) => sls_mono HS.out (a := q) (b := md) (by omega) (by rw [HL.out]; exact hmn) h)
      have HST := Lib.hid (fun (h : ¬ cmpSl (slOf t md) x < 0) q (hq : md ≤ q) (hqn : q < n) => (Int.not_lt.1 (fun h2 => h (sls_mono HS.out (a := md) (b := q) hq (by rw [HL.out]; exact hqn) h2)) : 0 ≤ cmpSl (slOf t q) x))
      obtain ⟨y, hy⟩ : ∃ y, y = slOf t md := ⟨_, rfl⟩
      rw [← hy] at HY HGO HST
      have HCY := Lib.hid (HC.out y)
      obtain ⟨z, hz⟩ : ∃ z, z = cmpSl y x := ⟨_, rfl⟩
      rw [← hz] at HCY HGO HST
      clear hy hx hg hz
      have hw1 : IntKind.i64.wrap ((lo : Int) + (hi : Int)) = (lo : Int) + (hi : Int) := by rw [IntKind.wrap_i64]; omega
      have hmi : ((lo : Int) + (hi : Int)) / 2 = (md : Int) := by omega
      have hmi2 : 0 ≤ (lo : Int) + (hi : Int) := by omega
      clear hmd
      have hu1 := run_underlying Try.underlying89
      have hu2 := Try.underlying89
      have hw2 : IntKind.u64.wrap ((lo : Int) + (hi : Int)) = (lo : Int) + (hi : Int) := by simp only [IntKind.wrap, IntKind.signed, IntKind.bits]; simp; omega
      go_upto_region 5 with fail
      clear hw1 hmi hmi2 hu1 hu2 hw2
      have HXW := Lib.hid (fun W (hW : Below wr.heap.size wr W) => (HXR.out.below hW HXR.out.lt).all8)
      have HYW := Lib.hid (fun W (hW : Below wr.heap.size wr W) => (HY.out.below hW HY.out.lt).all8)
      have HD := Lib.hid (show Below wr.heap.size wr wr.drew from Below.drew (Below.refl _ _))
      have hmni : (md : Int) < (n : Int) := by omega
      have hm0 : (0 : Int) ≤ (md : Int) := by omega
      by_cases hz : z < 0
      · have HF := Lib.hid (HGO.out hz)
        refine wp_region_held_drew (S := fun w' => (w'.cell? ⟨w.heap.size, 0, none⟩ = some (Value.int .i64 x.mode) ∧ w'.cell? ⟨w.heap.size, 1, none⟩ = some (Value.int .i64 x.round) ∧ w'.cell? ⟨w.heap.size, 2, none⟩ = some (Value.int .i64 x.slot) ∧ w'.cell? ⟨w.heap.size, 3, none⟩ = some (Value.int .i64 x.desc.node) ∧ w'.cell? ⟨w.heap.size, 4, none⟩ = some (Value.int .i64 x.desc.kind) ∧ w'.cell? ⟨w.heap.size, 5, none⟩ = some (Value.int .i64 x.desc.size) ∧ w'.cell? ⟨w.heap.size, 6, none⟩ = some (Value.int .i64 x.desc.dur) ∧ w'.cell? ⟨w.heap.size, 7, none⟩ = some (Value.bool x.desc.chg)) ∧ (w'.cell? ⟨b, off + md * 8, none⟩ = some (Value.int .i64 y.mode) ∧ w'.cell? ⟨b, off + md * 8 + 1, none⟩ = some (Value.int .i64 y.round) ∧ w'.cell? ⟨b, off + md * 8 + 2, none⟩ = some (Value.int .i64 y.slot) ∧ w'.cell? ⟨b, off + md * 8 + 3, none⟩ = some (Value.int .i64 y.desc.node) ∧ w'.cell? ⟨b, off + md * 8 + 4, none⟩ = some (Value.int .i64 y.desc.kind) ∧ w'.cell? ⟨b, off + md * 8 + 5, none⟩ = some (Value.int .i64 y.desc.size) ∧ w'.cell? ⟨b, off + md * 8 + 6, none⟩ = some (Value.int .i64 y.desc.dur) ∧ w'.cell? ⟨b, off + md * 8 + 7, none⟩ = some (Value.bool y.desc.chg))) (by kernel_rfl) (⟨HXW.out _ HD.out, HYW.out _ HD.out⟩) (fun hHeld => ?_)
        generalize wr.drew = w4 at HD hHeld ⊢
        refine wpAnyH_take (i := 0) (v := ?_) rfl (by kernel_rfl) (by kernel_rfl) (by kernel_rfl) (fun _ _ _ h => h) (Or.inl ⟨by rfl, ?_⟩) (by assumption) ?_
        rotate_left
        · (intro w hSw; (try dsimp only at hSw); go_simp; (try with_reducible rfl))
        try simp only [List.getElem_toArray, List.getElem_cons_succ, List.getElem_cons_zero, Act.put, List.setIfInBounds_toArray, List.set_cons_zero, List.set_cons_succ]
        refine wpAnyH_take (i := 1) (v := ?_) rfl (by kernel_rfl) (by kernel_rfl) (by kernel_rfl) (fun _ _ _ h => h) (Or.inl ⟨by rfl, ?_⟩) (by assumption) ?_
        rotate_left
        · (intro w hSw; (try dsimp only at hSw); go_simp; (try with_reducible rfl))
        try simp only [List.getElem_toArray, List.getElem_cons_succ, List.getElem_cons_zero, Act.put, List.setIfInBounds_toArray, List.set_cons_zero, List.set_cons_succ]
        refine wpAnyH_take (i := 2) (v := ?_) rfl (by kernel_rfl) (by kernel_rfl) (by kernel_rfl) (fun _ _ _ h => h) (Or.inl ⟨by rfl, ?_⟩) (by assumption) ?_
        rotate_left
        · (intro w hSw; (try dsimp only at hSw); go_simp; (try with_reducible rfl))
        try simp only [List.getElem_toArray, List.getElem_cons_succ, List.getElem_cons_zero, Act.put, List.setIfInBounds_toArray, List.set_cons_zero, List.set_cons_succ]
        refine wpAnyH_take (i := 3) (v := ?_) rfl (by kernel_rfl) (by kernel_rfl) (by kernel_rfl) (fun _ _ _ h => h) (Or.inl ⟨by rfl, ?_⟩) (by assumption) ?_
        rotate_left
        · (intro w hSw; (try dsimp only at hSw); go_simp; (try with_reducible rfl))
        try simp only [List.getElem_toArray, List.getElem_cons_succ, List.getElem_cons_zero, Act.put, List.setIfInBounds_toArray, List.set_cons_zero, List.set_cons_succ]
        refine wpAnyH_take (i := 4) (v := ?_) rfl (by kernel_rfl) (by kernel_rfl) (by kernel_rfl) (fun _ _ _ h => h) (Or.inl ⟨by rfl, ?_⟩) (by assumption) ?_
        rotate_left
        · (intro w hSw; (try dsimp only at hSw); go_simp; (try with_reducible rfl))
        try simp only [List.getElem_toArray, List.getElem_cons_succ, List.getElem_cons_zero, Act.put, List.setIfInBounds_toArray, List.set_cons_zero, List.set_cons_succ]
        refine wpAnyH_take (i := 5) (v := ?_) rfl (by kernel_rfl) (by kernel_rfl) (by kernel_rfl) (fun _ _ _ h => h) (Or.inl ⟨by rfl, ?_⟩) (by assumption) ?_
        rotate_left
        · (intro w hSw; (try dsimp only at hSw); go_simp; (try with_reducible rfl))
        try simp only [List.getElem_toArray, List.getElem_cons_succ, List.getElem_cons_zero, Act.put, List.setIfInBounds_toArray, List.set_cons_zero, List.set_cons_succ]
        refine wpAnyH_ready (rs := [6]) (by kernel_rfl) (by simp) (AllReadyH.cons rfl (fun K hK => ?_) AllReadyH.nil)
        go_simp
        refine (HCY.out _).mono ?_
        rintro e w5 ⟨rfl, b5⟩
        have HD5 := Lib.hid (below_two HD.out b5); clear b5
        go_wp2_with fail
        refine hK.out _ _ ?_ (fun hHeld => ?_)
        · exact ⟨HXW.out _ HD5.out, HYW.out _ HD5.out⟩
        clear hK K
        try simp only [List.getElem_toArray, List.getElem_cons_succ, List.getElem_cons_zero, Act.put, List.setIfInBounds_toArray, List.set_cons_zero, List.set_cons_succ]
        refine wpAnyH_take (i := 7) (v := ?_) rfl (by kernel_rfl) (by kernel_rfl) (by kernel_rfl) (fun _ _ _ h => h) (Or.inl ⟨by rfl, ?_⟩) (by assumption) ?_
        rotate_left
        · (intro w hSw; (try dsimp only at hSw); go_simp; (try with_reducible rfl))
        try simp only [List.getElem_toArray, List.getElem_cons_succ, List.getElem_cons_zero, Act.put, List.setIfInBounds_toArray, List.set_cons_zero, List.set_cons_succ]
        refine wpAnyH_done (by kernel_rfl) ?_ _
        have HBE := Lib.hid (below_two HBR.out HD5.out)
        go_wp2_with fail
        go_roundw
        case rel => exact ⟨md + 1, hi, by go_num, rfl, by omega, hin, HBE, HF, HHI⟩
        case measure => simp [intOf]; omega
      · have HF := Lib.hid (HST.out hz)
        refine wp_region_held_drew (S := fun w' => (w'.cell? ⟨w.heap.size, 0, none⟩ = some (Value.int .i64 x.mode) ∧ w'.cell? ⟨w.heap.size, 1, none⟩ = some (Value.int .i64 x.round) ∧ w'.cell? ⟨w.heap.size, 2, none⟩ = some (Value.int .i64 x.slot) ∧ w'.cell? ⟨w.heap.size, 3, none⟩ = some (Value.int .i64 x.desc.node) ∧ w'.cell? ⟨w.heap.size, 4, none⟩ = some (Value.int .i64 x.desc.kind) ∧ w'.cell? ⟨w.heap.size, 5, none⟩ = some (Value.int .i64 x.desc.size) ∧ w'.cell? ⟨w.heap.size, 6, none⟩ = some (Value.int .i64 x.desc.dur) ∧ w'.cell? ⟨w.heap.size, 7, none⟩ = some (Value.bool x.desc.chg)) ∧ (w'.cell? ⟨b, off + md * 8, none⟩ = some (Value.int .i64 y.mode) ∧ w'.cell? ⟨b, off + md * 8 + 1, none⟩ = some (Value.int .i64 y.round) ∧ w'.cell? ⟨b, off + md * 8 + 2, none⟩ = some (Value.int .i64 y.slot) ∧ w'.cell? ⟨b, off + md * 8 + 3, none⟩ = some (Value.int .i64 y.desc.node) ∧ w'.cell? ⟨b, off + md * 8 + 4, none⟩ = some (Value.int .i64 y.desc.kind) ∧ w'.cell? ⟨b, off + md * 8 + 5, none⟩ = some (Value.int .i64 y.desc.size) ∧ w'.cell? ⟨b, off + md * 8 + 6, none⟩ = some (Value.int .i64 y.desc.dur) ∧ w'.cell? ⟨b, off + md * 8 + 7, none⟩ = some (Value.bool y.desc.chg))) (by kernel_rfl) (⟨HXW.out _ HD.out, HYW.out _ HD.out⟩) (fun hHeld => ?_)
        generalize wr.drew = w4 at HD hHeld ⊢
        refine wpAnyH_take (i := 0) (v := ?_) rfl (by kernel_rfl) (by kernel_rfl) (by kernel_rfl) (fun _ _ _ h => h) (Or.inl ⟨by rfl, ?_⟩) (by assumption) ?_
        rotate_left
        · (intro w hSw; (try dsimp only at hSw); go_simp; (try with_reducible rfl))
        try simp only [List.getElem_toArray, List.getElem_cons_succ, List.getElem_cons_zero, Act.put, List.setIfInBounds_toArray, List.set_cons_zero, List.set_cons_succ]
        refine wpAnyH_take (i := 1) (v := ?_) rfl (by kernel_rfl) (by kernel_rfl) (by kernel_rfl) (fun _ _ _ h => h) (Or.inl ⟨by rfl, ?_⟩) (by assumption) ?_
        rotate_left
        · (intro w hSw; (try dsimp only at hSw); go_simp; (try with_reducible rfl))
        try simp only [List.getElem_toArray, List.getElem_cons_succ, List.getElem_cons_zero, Act.put, List.setIfInBounds_toArray, List.set_cons_zero, List.set_cons_succ]
        refine wpAnyH_take (i := 2) (v := ?_) rfl (by kernel_rfl) (by kernel_rfl) (by kernel_rfl) (fun _ _ _ h => h) (Or.inl ⟨by rfl, ?_⟩) (by assumption) ?_
        rotate_left
        · (intro w hSw; (try dsimp only at hSw); go_simp; (try with_reducible rfl))
        try simp only [List.getElem_toArray, List.getElem_cons_succ, List.getElem_cons_zero, Act.put, List.setIfInBounds_toArray, List.set_cons_zero, List.set_cons_succ]
        refine wpAnyH_take (i := 3) (v := ?_) rfl (by kernel_rfl) (by kernel_rfl) (by kernel_rfl) (fun _ _ _ h => h) (Or.inl ⟨by rfl, ?_⟩) (by assumption) ?_
        rotate_left
        · (intro w hSw; (try dsimp only at hSw); go_simp; (try with_reducible rfl))
        try simp only [List.getElem_toArray, List.getElem_cons_succ, List.getElem_cons_zero, Act.put, List.setIfInBounds_toArray, List.set_cons_zero, List.set_cons_succ]
        refine wpAnyH_take (i := 4) (v := ?_) rfl (by kernel_rfl) (by kernel_rfl) (by kernel_rfl) (fun _ _ _ h => h) (Or.inl ⟨by rfl, ?_⟩) (by assumption) ?_
        rotate_left
        · (intro w hSw; (try dsimp only at hSw); go_simp; (try with_reducible rfl))
        try simp only [List.getElem_toArray, List.getElem_cons_succ, List.getElem_cons_zero, Act.put, List.setIfInBounds_toArray, List.set_cons_zero, List.set_cons_succ]
        refine wpAnyH_take (i := 5) (v := ?_) rfl (by kernel_rfl) (by kernel_rfl) (by kernel_rfl) (fun _ _ _ h => h) (Or.inl ⟨by rfl, ?_⟩) (by assumption) ?_
        rotate_left
        · (intro w hSw; (try dsimp only at hSw); go_simp; (try with_reducible rfl))
        try simp only [List.getElem_toArray, List.getElem_cons_succ, List.getElem_cons_zero, Act.put, List.setIfInBounds_toArray, List.set_cons_zero, List.set_cons_succ]
        refine wpAnyH_ready (rs := [6]) (by kernel_rfl) (by simp) (AllReadyH.cons rfl (fun K hK => ?_) AllReadyH.nil)
        go_simp
        refine (HCY.out _).mono ?_
        rintro e w5 ⟨rfl, b5⟩
        have HD5 := Lib.hid (below_two HD.out b5); clear b5
        go_wp2_with fail
        refine hK.out _ _ ?_ (fun hHeld => ?_)
        · exact ⟨HXW.out _ HD5.out, HYW.out _ HD5.out⟩
        clear hK K
        try simp only [List.getElem_toArray, List.getElem_cons_succ, List.getElem_cons_zero, Act.put, List.setIfInBounds_toArray, List.set_cons_zero, List.set_cons_succ]
        refine wpAnyH_take (i := 7) (v := ?_) rfl (by kernel_rfl) (by kernel_rfl) (by kernel_rfl) (fun _ _ _ h => h) (Or.inl ⟨by rfl, ?_⟩) (by assumption) ?_
        rotate_left
        · (intro w hSw; (try dsimp only at hSw); go_simp; (try with_reducible rfl))
        try simp only [List.getElem_toArray, List.getElem_cons_succ, List.getElem_cons_zero, Act.put, List.setIfInBounds_toArray, List.set_cons_zero, List.set_cons_succ]
        refine wpAnyH_done (by kernel_rfl) ?_ _
        have HBE := Lib.hid (below_two HBR.out HD5.out)
        go_wp2_with fail
        go_roundw
        case rel => exact ⟨lo, md, rfl, rfl, by omega, by omega, HBE, HLO, HF⟩
        case measure => simp [intOf]; omega
    · have hle : hi = lo := by omega
      subst hle
      by_cases hln : hi < n
      · obtain ⟨b, off, e0, hg, hx⟩ := HR.out.at hln
        subst e0
        have HY := Lib.hid ((hx.below HB.out hg).below HBR.out (by have := HB.out.size; omega))
        obtain ⟨y, hy⟩ : ∃ y, y = slOf t hi := ⟨_, rfl⟩
        rw [← hy] at HY
        have HCY := Lib.hid (HC.out y)
        obtain ⟨z, hz⟩ : ∃ z, z = cmpSl y x := ⟨_, rfl⟩
        rw [← hz] at HCY
        clear hy hx hg hz
        have hln1 : (hi : Int) < (n : Int) := by omega
        have hln0 : (0 : Int) ≤ (hi : Int) := by omega
        go_upto_region 8 with fail
        have HXW := Lib.hid (fun W (hW : Below wr.heap.size wr W) => (HXR.out.below hW HXR.out.lt).all8)
        have HYW := Lib.hid (fun W (hW : Below wr.heap.size wr W) => (HY.out.below hW HY.out.lt).all8)
        have HD := Lib.hid (show Below wr.heap.size wr wr.drew from Below.drew (Below.refl _ _))
        refine wp_region_held_drew (S := fun w' => (w'.cell? ⟨w.heap.size, 0, none⟩ = some (Value.int .i64 x.mode) ∧ w'.cell? ⟨w.heap.size, 1, none⟩ = some (Value.int .i64 x.round) ∧ w'.cell? ⟨w.heap.size, 2, none⟩ = some (Value.int .i64 x.slot) ∧ w'.cell? ⟨w.heap.size, 3, none⟩ = some (Value.int .i64 x.desc.node) ∧ w'.cell? ⟨w.heap.size, 4, none⟩ = some (Value.int .i64 x.desc.kind) ∧ w'.cell? ⟨w.heap.size, 5, none⟩ = some (Value.int .i64 x.desc.size) ∧ w'.cell? ⟨w.heap.size, 6, none⟩ = some (Value.int .i64 x.desc.dur) ∧ w'.cell? ⟨w.heap.size, 7, none⟩ = some (Value.bool x.desc.chg)) ∧ (w'.cell? ⟨b, off + hi * 8, none⟩ = some (Value.int .i64 y.mode) ∧ w'.cell? ⟨b, off + hi * 8 + 1, none⟩ = some (Value.int .i64 y.round) ∧ w'.cell? ⟨b, off + hi * 8 + 2, none⟩ = some (Value.int .i64 y.slot) ∧ w'.cell? ⟨b, off + hi * 8 + 3, none⟩ = some (Value.int .i64 y.desc.node) ∧ w'.cell? ⟨b, off + hi * 8 + 4, none⟩ = some (Value.int .i64 y.desc.kind) ∧ w'.cell? ⟨b, off + hi * 8 + 5, none⟩ = some (Value.int .i64 y.desc.size) ∧ w'.cell? ⟨b, off + hi * 8 + 6, none⟩ = some (Value.int .i64 y.desc.dur) ∧ w'.cell? ⟨b, off + hi * 8 + 7, none⟩ = some (Value.bool y.desc.chg))) (by kernel_rfl) (⟨HXW.out _ HD.out, HYW.out _ HD.out⟩) (fun hHeld => ?_)
        generalize wr.drew = w4 at HD hHeld ⊢
        refine wpAnyH_take (i := 0) (v := ?_) rfl (by kernel_rfl) (by kernel_rfl) (by kernel_rfl) (fun _ _ _ h => h) (Or.inl ⟨by rfl, ?_⟩) (by assumption) ?_
        rotate_left
        · (intro w hSw; (try dsimp only at hSw); go_simp; (try with_reducible rfl))
        try simp only [List.getElem_toArray, List.getElem_cons_succ, List.getElem_cons_zero, Act.put, List.setIfInBounds_toArray, List.set_cons_zero, List.set_cons_succ]
        refine wpAnyH_take (i := 1) (v := ?_) rfl (by kernel_rfl) (by kernel_rfl) (by kernel_rfl) (fun _ _ _ h => h) (Or.inl ⟨by rfl, ?_⟩) (by assumption) ?_
        rotate_left
        · (intro w hSw; (try dsimp only at hSw); go_simp; (try with_reducible rfl))
        try simp only [List.getElem_toArray, List.getElem_cons_succ, List.getElem_cons_zero, Act.put, List.setIfInBounds_toArray, List.set_cons_zero, List.set_cons_succ]
        refine wpAnyH_take (i := 2) (v := ?_) rfl (by kernel_rfl) (by kernel_rfl) (by kernel_rfl) (fun _ _ _ h => h) (Or.inl ⟨by rfl, ?_⟩) (by assumption) ?_
        rotate_left
        · (intro w hSw; (try dsimp only at hSw); go_simp; (try with_reducible rfl))
        try simp only [List.getElem_toArray, List.getElem_cons_succ, List.getElem_cons_zero, Act.put, List.setIfInBounds_toArray, List.set_cons_zero, List.set_cons_succ]
        refine wpAnyH_take (i := 3) (v := ?_) rfl (by kernel_rfl) (by kernel_rfl) (by kernel_rfl) (fun _ _ _ h => h) (Or.inl ⟨by rfl, ?_⟩) (by assumption) ?_
        rotate_left
        · (intro w hSw; (try dsimp only at hSw); go_simp; (try with_reducible rfl))
        try simp only [List.getElem_toArray, List.getElem_cons_succ, List.getElem_cons_zero, Act.put, List.setIfInBounds_toArray, List.set_cons_zero, List.set_cons_succ]
        refine wpAnyH_take (i := 4) (v := ?_) rfl (by kernel_rfl) (by kernel_rfl) (by kernel_rfl) (fun _ _ _ h => h) (Or.inl ⟨by rfl, ?_⟩) (by assumption) ?_
        rotate_left
        · (intro w hSw; (try dsimp only at hSw); go_simp; (try with_reducible rfl))
        try simp only [List.getElem_toArray, List.getElem_cons_succ, List.getElem_cons_zero, Act.put, List.setIfInBounds_toArray, List.set_cons_zero, List.set_cons_succ]
        refine wpAnyH_take (i := 5) (v := ?_) rfl (by kernel_rfl) (by kernel_rfl) (by kernel_rfl) (fun _ _ _ h => h) (Or.inl ⟨by rfl, ?_⟩) (by assumption) ?_
        rotate_left
        · (intro w hSw; (try dsimp only at hSw); go_simp; (try with_reducible rfl))
        try simp only [List.getElem_toArray, List.getElem_cons_succ, List.getElem_cons_zero, Act.put, List.setIfInBounds_toArray, List.set_cons_zero, List.set_cons_succ]
        refine wpAnyH_take (i := 6) (v := ?_) rfl (by kernel_rfl) (by kernel_rfl) (by kernel_rfl) (fun _ _ _ h => h) (Or.inl ⟨by rfl, ?_⟩) (by assumption) ?_
        rotate_left
        · (intro w hSw; (try dsimp only at hSw); go_simp; (try with_reducible rfl))
        try simp only [List.getElem_toArray, List.getElem_cons_succ, List.getElem_cons_zero, Act.put, List.setIfInBounds_toArray, List.set_cons_zero, List.set_cons_succ]
        refine wpAnyH_take (i := 7) (v := ?_) rfl (by kernel_rfl) (by kernel_rfl) (by kernel_rfl) (fun _ _ _ h => h) (Or.inl ⟨by rfl, ?_⟩) (by assumption) ?_
        rotate_left
        · (intro w hSw; (try dsimp only at hSw); go_simp; (try with_reducible rfl))
        try simp only [List.getElem_toArray, List.getElem_cons_succ, List.getElem_cons_zero, Act.put, List.setIfInBounds_toArray, List.set_cons_zero, List.set_cons_succ]
        refine wpAnyH_take (i := 8) (v := ?_) rfl (by kernel_rfl) (by kernel_rfl) (by kernel_rfl) (fun _ _ _ h => h) (Or.inl ⟨by rfl, ?_⟩) (by assumption) ?_
        rotate_left
        · (intro w hSw; (try dsimp only at hSw); go_simp; (try with_reducible rfl))
        try simp only [List.getElem_toArray, List.getElem_cons_succ, List.getElem_cons_zero, Act.put, List.setIfInBounds_toArray, List.set_cons_zero, List.set_cons_succ]
        refine wpAnyH_take (i := 9) (v := ?_) rfl (by kernel_rfl) (by kernel_rfl) (by kernel_rfl) (fun _ _ _ h => h) (Or.inl ⟨by rfl, ?_⟩) (by assumption) ?_
        rotate_left
        · (intro w hSw; (try dsimp only at hSw); go_simp; (try with_reducible rfl))
        try simp only [List.getElem_toArray, List.getElem_cons_succ, List.getElem_cons_zero, Act.put, List.setIfInBounds_toArray, List.set_cons_zero, List.set_cons_succ]
        refine wpAnyH_take (i := 10) (v := ?_) rfl (by kernel_rfl) (by kernel_rfl) (by kernel_rfl) (fun _ _ _ h => h) (Or.inl ⟨by rfl, ?_⟩) (by assumption) ?_
        rotate_left
        · (intro w hSw; (try dsimp only at hSw); go_simp; (try with_reducible rfl))
        try simp only [List.getElem_toArray, List.getElem_cons_succ, List.getElem_cons_zero, Act.put, List.setIfInBounds_toArray, List.set_cons_zero, List.set_cons_succ]
        refine wpAnyH_ready (rs := [11]) (by kernel_rfl) (by simp) (AllReadyH.cons rfl (fun K hK => ?_) AllReadyH.nil)
        go_simp
        refine (HCY.out _).mono ?_
        rintro e w5 ⟨rfl, b5⟩
        have HD5 := Lib.hid (below_two HD.out b5); clear b5
        go_wp2_with fail
        refine hK.out _ _ ?_ (fun hHeld => ?_)
        · exact ⟨HXW.out _ HD5.out, HYW.out _ HD5.out⟩
        clear hK K
        try simp only [List.getElem_toArray, List.getElem_cons_succ, List.getElem_cons_zero, Act.put, List.setIfInBounds_toArray, List.set_cons_zero, List.set_cons_succ]
        refine wpAnyH_take (i := 12) (v := ?_) rfl (by kernel_rfl) (by kernel_rfl) (by kernel_rfl) (fun _ _ _ h => h) (Or.inl ⟨by rfl, ?_⟩) (by assumption) ?_
        rotate_left
        · (intro w hSw; (try dsimp only at hSw); go_simp; (try with_reducible rfl))
        try simp only [List.getElem_toArray, List.getElem_cons_succ, List.getElem_cons_zero, Act.put, List.setIfInBounds_toArray, List.set_cons_zero, List.set_cons_succ]
        refine wpAnyH_take (i := 13) (v := ?_) rfl (by kernel_rfl) (by kernel_rfl) (by kernel_rfl) (fun _ _ _ h => h) (Or.inl ⟨by rfl, ?_⟩) (by assumption) ?_
        rotate_left
        · (intro w hSw; (try dsimp only at hSw); go_simp; (try with_reducible rfl))
        try simp only [List.getElem_toArray, List.getElem_cons_succ, List.getElem_cons_zero, Act.put, List.setIfInBounds_toArray, List.set_cons_zero, List.set_cons_succ]
        refine wpAnyH_take (i := 14) (v := ?_) rfl (by kernel_rfl) (by kernel_rfl) (by kernel_rfl) (fun _ _ _ h => h) (Or.inl ⟨by rfl, ?_⟩) (by assumption) ?_
        rotate_left
        · (intro w hSw; (try dsimp only at hSw); go_simp; (try with_reducible rfl))
        try simp only [List.getElem_toArray, List.getElem_cons_succ, List.getElem_cons_zero, Act.put, List.setIfInBounds_toArray, List.set_cons_zero, List.set_cons_succ]
        refine wpAnyH_take (i := 15) (v := ?_) rfl (by kernel_rfl) (by kernel_rfl) (by kernel_rfl) (fun _ _ _ h => h) (Or.inl ⟨by rfl, ?_⟩) (by assumption) ?_
        rotate_left
        · (intro w hSw; (try dsimp only at hSw); go_simp; (try with_reducible rfl))
        try simp only [List.getElem_toArray, List.getElem_cons_succ, List.getElem_cons_zero, Act.put, List.setIfInBounds_toArray, List.set_cons_zero, List.set_cons_succ]
        refine wpAnyH_done (by kernel_rfl) ?_ _
        have HBE := Lib.hid (below_two (below_two HB.out HBR.out) HD5.out)
        go_wp2_with fail
        go_ret2
        first | exact ⟨hi, _, rfl, hin, HLO.out, HHI.out, HBE.out⟩ | exact ⟨hi, rfl, hin, HLO.out, HHI.out, HBE.out⟩ | exact ⟨hi, by simp, hin, HLO.out, HHI.out, HBE.out⟩ | exact ⟨hin, HLO.out, HHI.out, HBE.out⟩
      · have hln1 : ¬ (hi : Int) < (n : Int) := by omega
        have hden : decide ((hi : Int) < (n : Int)) = false := decide_eq_false hln1
        go_upto_region 8 with fail
        have HD := Lib.hid (show Below wr.heap.size wr wr.drew from Below.drew (Below.refl _ _))
        refine wp_region_held_drew (S := fun w' => True) (by kernel_rfl) (trivial) (fun hHeld => ?_)
        generalize wr.drew = w4 at HD hHeld ⊢
        refine wpAnyH_take (i := 0) (v := ?_) rfl (by kernel_rfl) (by kernel_rfl) (by kernel_rfl) (fun _ _ _ h => h) (Or.inl ⟨by rfl, ?_⟩) (by assumption) ?_
        rotate_left
        · (intro w hSw; (try dsimp only at hSw); go_simp; (try with_reducible rfl))
        try simp only [List.getElem_toArray, List.getElem_cons_succ, List.getElem_cons_zero, Act.put, List.setIfInBounds_toArray, List.set_cons_zero, List.set_cons_succ]
        refine wpAnyH_take (i := 1) (v := ?_) rfl (by kernel_rfl) (by kernel_rfl) (by kernel_rfl) (fun _ _ _ h => h) (Or.inl ⟨by rfl, ?_⟩) (by assumption) ?_
        rotate_left
        · (intro w hSw; (try dsimp only at hSw); go_simp; (try with_reducible rfl))
        try simp only [List.getElem_toArray, List.getElem_cons_succ, List.getElem_cons_zero, Act.put, List.setIfInBounds_toArray, List.set_cons_zero, List.set_cons_succ]
        refine wpAnyH_take (i := 2) (v := ?_) rfl (by kernel_rfl) (by kernel_rfl) (by kernel_rfl) (fun _ _ _ h => h) (Or.inl ⟨by rfl, ?_⟩) (by assumption) ?_
        rotate_left
        · (intro w hSw; (try dsimp only at hSw); go_simp; (try with_reducible rfl))
        try simp only [List.getElem_toArray, List.getElem_cons_succ, List.getElem_cons_zero, Act.put, List.setIfInBounds_toArray, List.set_cons_zero, List.set_cons_succ]
        refine wpAnyH_take (i := 3) (v := ?_) rfl (by kernel_rfl) (by kernel_rfl) (by kernel_rfl) (fun _ _ _ h => h) (Or.inl ⟨by rfl, ?_⟩) (by assumption) ?_
        rotate_left
        · (intro w hSw; (try dsimp only at hSw); go_simp; (try with_reducible rfl))
        try simp only [List.getElem_toArray, List.getElem_cons_succ, List.getElem_cons_zero, Act.put, List.setIfInBounds_toArray, List.set_cons_zero, List.set_cons_succ]
        refine wpAnyH_take (i := 4) (v := ?_) rfl (by kernel_rfl) (by kernel_rfl) (by kernel_rfl) (fun _ _ _ h => h) (Or.inl ⟨by rfl, ?_⟩) (by assumption) ?_
        rotate_left
        · (intro w hSw; (try dsimp only at hSw); go_simp; (try with_reducible rfl))
        try simp only [List.getElem_toArray, List.getElem_cons_succ, List.getElem_cons_zero, Act.put, List.setIfInBounds_toArray, List.set_cons_zero, List.set_cons_succ]
        refine wpAnyH_take (i := 5) (v := undef) rfl (by kernel_rfl) (by kernel_rfl) (by kernel_rfl) (fun _ _ _ h => h) (Or.inr ⟨by rfl, rfl⟩) (by assumption) ?_
        try simp only [List.getElem_toArray, List.getElem_cons_succ, List.getElem_cons_zero, Act.put, List.setIfInBounds_toArray, List.set_cons_zero, List.set_cons_succ]
        refine wpAnyH_take (i := 6) (v := undef) rfl (by kernel_rfl) (by kernel_rfl) (by kernel_rfl) (fun _ _ _ h => h) (Or.inr ⟨by rfl, rfl⟩) (by assumption) ?_
        try simp only [List.getElem_toArray, List.getElem_cons_succ, List.getElem_cons_zero, Act.put, List.setIfInBounds_toArray, List.set_cons_zero, List.set_cons_succ]
        refine wpAnyH_take (i := 7) (v := undef) rfl (by kernel_rfl) (by kernel_rfl) (by kernel_rfl) (fun _ _ _ h => h) (Or.inr ⟨by rfl, rfl⟩) (by assumption) ?_
        try simp only [List.getElem_toArray, List.getElem_cons_succ, List.getElem_cons_zero, Act.put, List.setIfInBounds_toArray, List.set_cons_zero, List.set_cons_succ]
        refine wpAnyH_take (i := 8) (v := undef) rfl (by kernel_rfl) (by kernel_rfl) (by kernel_rfl) (fun _ _ _ h => h) (Or.inr ⟨by rfl, rfl⟩) (by assumption) ?_
        try simp only [List.getElem_toArray, List.getElem_cons_succ, List.getElem_cons_zero, Act.put, List.setIfInBounds_toArray, List.set_cons_zero, List.set_cons_succ]
        refine wpAnyH_take (i := 9) (v := undef) rfl (by kernel_rfl) (by kernel_rfl) (by kernel_rfl) (fun _ _ _ h => h) (Or.inr ⟨by rfl, rfl⟩) (by assumption) ?_
        try simp only [List.getElem_toArray, List.getElem_cons_succ, List.getElem_cons_zero, Act.put, List.setIfInBounds_toArray, List.set_cons_zero, List.set_cons_succ]
        refine wpAnyH_take (i := 10) (v := undef) rfl (by kernel_rfl) (by kernel_rfl) (by kernel_rfl) (fun _ _ _ h => h) (Or.inr ⟨by rfl, rfl⟩) (by assumption) ?_
        try simp only [List.getElem_toArray, List.getElem_cons_succ, List.getElem_cons_zero, Act.put, List.setIfInBounds_toArray, List.set_cons_zero, List.set_cons_succ]
        refine wpAnyH_take (i := 11) (v := undef) rfl (by kernel_rfl) (by kernel_rfl) (by kernel_rfl) (fun _ _ _ h => h) (Or.inr ⟨by rfl, rfl⟩) (by assumption) ?_
        try simp only [List.getElem_toArray, List.getElem_cons_succ, List.getElem_cons_zero, Act.put, List.setIfInBounds_toArray, List.set_cons_zero, List.set_cons_succ]
        refine wpAnyH_take (i := 12) (v := undef) rfl (by kernel_rfl) (by kernel_rfl) (by kernel_rfl) (fun _ _ _ h => h) (Or.inr ⟨by rfl, rfl⟩) (by assumption) ?_
        try simp only [List.getElem_toArray, List.getElem_cons_succ, List.getElem_cons_zero, Act.put, List.setIfInBounds_toArray, List.set_cons_zero, List.set_cons_succ]
        refine wpAnyH_take (i := 13) (v := ?_) rfl (by kernel_rfl) (by kernel_rfl) (by kernel_rfl) (fun _ _ _ h => h) (Or.inl ⟨by rfl, ?_⟩) (by assumption) ?_
        rotate_left
        · (intro w hSw; (try dsimp only at hSw); go_simp; (try with_reducible rfl))
        try simp only [List.getElem_toArray, List.getElem_cons_succ, List.getElem_cons_zero, Act.put, List.setIfInBounds_toArray, List.set_cons_zero, List.set_cons_succ]
        refine wpAnyH_take (i := 14) (v := ?_) rfl (by kernel_rfl) (by kernel_rfl) (by kernel_rfl) (fun _ _ _ h => h) (Or.inl ⟨by rfl, ?_⟩) (by assumption) ?_
        rotate_left
        · (intro w hSw; (try dsimp only at hSw); go_simp; (try with_reducible rfl))
        try simp only [List.getElem_toArray, List.getElem_cons_succ, List.getElem_cons_zero, Act.put, List.setIfInBounds_toArray, List.set_cons_zero, List.set_cons_succ]
        refine wpAnyH_take (i := 15) (v := ?_) rfl (by kernel_rfl) (by kernel_rfl) (by kernel_rfl) (fun _ _ _ h => h) (Or.inl ⟨by rfl, ?_⟩) (by assumption) ?_
        rotate_left
        · (intro w hSw; (try dsimp only at hSw); go_simp; (try with_reducible rfl))
        try simp only [List.getElem_toArray, List.getElem_cons_succ, List.getElem_cons_zero, Act.put, List.setIfInBounds_toArray, List.set_cons_zero, List.set_cons_succ]
        refine wpAnyH_done (by kernel_rfl) ?_ _
        have HBE := Lib.hid (below_two (below_two HB.out HBR.out) HD.out)
        go_wp2_with fail
        go_ret2
        first | exact ⟨hi, _, rfl, hin, HLO.out, HHI.out, HBE.out⟩ | exact ⟨hi, rfl, hin, HLO.out, HHI.out, HBE.out⟩ | exact ⟨hi, by simp, hin, HLO.out, HHI.out, HBE.out⟩ | exact ⟨hin, HLO.out, HHI.out, HBE.out⟩
end Go.Proofs.Ytggnoeeaoligdaa
