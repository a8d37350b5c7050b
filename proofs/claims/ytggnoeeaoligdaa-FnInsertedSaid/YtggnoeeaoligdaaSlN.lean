/-
  Chapter 12: slices.BinarySearchFunc over a slot table.
  Chapter 12: slices.Grow and slices.Concat over entries of slot tables; InsertSlot of the program.
  Chapter 12: InsertSlot of the model.
-/
import Derived.Test.YtggnoeeaoligdaaSlA
import Derived.Test.YtggnoeeaoligdaaSlF
import Derived.Lib.AppendZeros
namespace Go.Proofs.Ytggnoeeaoligdaa
section
open Go.RowKit

set_option maxRecDepth 100000 in
theorem closure_any (x y : Sl) (w : World) : Calls Try.prog 91 #[slVal x, slVal y] w fun e w' => e = .returned (.int .i64 (cmpSl x y)) ∧ Below w.heap.size w w' := by
  have HT := Lib.hid (two_sl w x y)
  have HB := Lib.hid (show Below w.heap.size w ((w.alloc (.cells #[.int .i64 x.mode, .int .i64 x.round, .int .i64 x.slot, .int .i64 x.desc.node, .int .i64 x.desc.kind, .int .i64 x.desc.size, .int .i64 x.desc.dur, .bool x.desc.chg] 38)).alloc (.cells #[.int .i64 y.mode, .int .i64 y.round, .int .i64 y.slot, .int .i64 y.desc.node, .int .i64 y.desc.kind, .int .i64 y.desc.size, .int .i64 y.desc.dur, .bool y.desc.chg] 38)) from below_two ((Below.refl _ _).alloc (Nat.le_refl _) _) ((Below.refl _ _).alloc (Nat.le_refl _) _))
  have HC := Lib.hid (fun W => cmpSlI_any x y W)
  unfold slVal at HC ⊢
  go_enter Try.func91, Try.ntmps91
  go_upto_region 1 with fail
  generalize (w.alloc (.cells #[.int .i64 x.mode, .int .i64 x.round, .int .i64 x.slot, .int .i64 x.desc.node, .int .i64 x.desc.kind, .int .i64 x.desc.size, .int .i64 x.desc.dur, .bool x.desc.chg] 38)).alloc (.cells #[.int .i64 y.mode, .int .i64 y.round, .int .i64 y.slot, .int .i64 y.desc.node, .int .i64 y.desc.kind, .int .i64 y.desc.size, .int .i64 y.desc.dur, .bool y.desc.chg] 38) = w1 at HT HB ⊢
  obtain ⟨q0, q1, q2, q3, q4, q5, q6, q7⟩ := HT.out.a.all8
  obtain ⟨r0, r1, r2, r3, r4, r5, r6, r7⟩ := HT.out.b.all8
  go_wp2_with fail
  refine (HC.out _).mono ?_
  rintro e w2 ⟨rfl, b2⟩
  have HB2 := Lib.hid (below_two HB.out b2)
  clear b2 q0 q1 q2 q3 q4 q5 q6 q7 r0 r1 r2 r3 r4 r5 r6 r7
  go_wp2_with fail
  go_ret
  exact ⟨rfl, HB2.out⟩
/-- How many entries stand ahead of x. -/
theorem before_count {t : List Sl} {x : Sl} {c : Nat} (hc : c ≤ t.length) (h1 : ∀ q, q < c → cmpSl (slOf t q) x < 0) (h2 : ∀ q, c ≤ q → q < t.length → 0 ≤ cmpSl (slOf t q) x) : before t x = t.take c ∧ ((∀ y ∈ t, cmpSl y x ≠ 0) → behind t x = t.drop c) := by
  have e : t = t.take c ++ t.drop c := (List.take_append_drop c t).symm
  have m1 : ∀ y ∈ t.take c, cmpSl y x < 0 := fun y hy => by
    obtain ⟨i, hi, rfl⟩ := List.getElem_of_mem hy
    rw [List.length_take] at hi
    rw [List.getElem_take, ← slOf_get (by omega)]
    exact h1 i (by omega)
  have m2 : ∀ y ∈ t.drop c, 0 ≤ cmpSl y x := fun y hy => by
    obtain ⟨i, hi, rfl⟩ := List.getElem_of_mem hy
    rw [List.length_drop] at hi
    rw [List.getElem_drop, ← slOf_get (by omega)]
    exact h2 (c + i) (by omega) (by omega)
  refine ⟨?_, fun hne => ?_⟩
  · unfold before
    conv => lhs; rw [e]
    rw [List.filter_append, List.filter_eq_self.2 (fun y hy => by simpa using m1 y hy), List.filter_eq_nil_iff.2 (fun y hy => by simpa using m2 y hy), List.append_nil]
  · unfold behind
    conv => lhs; rw [e]
    rw [List.filter_append, List.filter_eq_nil_iff.2 (fun y hy => by have := m1 y hy; simp; omega), List.filter_eq_self.2 (fun y hy => by have h3 := m2 y hy; have h4 := hne y (List.mem_of_mem_drop hy); simp; omega), List.nil_append]
theorem sls_mono {t : List Sl} {x : Sl} (hs : isSls t = true) {a b : Nat} (hab : a ≤ b) (hb : b < t.length) (h : cmpSl (slOf t b) x < 0) : cmpSl (slOf t a) x < 0 := by
  rcases Nat.lt_or_ge a b with hl | hl
  · have h3 := (isSls_iff.1 hs).2.2
    have := List.pairwise_iff_getElem.1 h3 a b (by omega) hb hl
    rw [← slOf_get (by omega), ← slOf_get hb] at this
    exact cmp_trans this h
  · rw [show a = b from by omega]; exact h
set_option maxRecDepth 100000 in
set_option maxHeartbeats 4000000 in
set_option linter.unusedSimpArgs false in
theorem search_any (ao : Option Addr) (n cap : Nat) (t : List Sl) (x : Sl) (w : World) (hr : RdE w ao n t) (hn : n ≤ 1048576) (hs : isSls t = true) :
    Calls Try.prog 90 #[.slice ao n cap, slVal x, .func (.func 91) #[] #[]] w fun e w' => ∃ (c : Nat) (f : Value), e = .returned (.tuple #[.int .i64 (c : Int), f]) ∧ c ≤ n ∧ (∀ q, q < c → cmpSl (slOf t q) x < 0) ∧ (∀ q, c ≤ q → q < n → 0 ≤ cmpSl (slOf t q) x) ∧ Below w.heap.size w w' := by
  have b0 := (Below.refl w.heap.size w).alloc (Nat.le_refl _) (.cells #[.int .i64 x.mode, .int .i64 x.round, .int .i64 x.slot, .int .i64 x.desc.node, .int .i64 x.desc.kind, .int .i64 x.desc.size, .int .i64 x.desc.dur, .bool x.desc.chg] 38)
  have HX := Lib.hid (SlBk.new (T := 38) (x := x) w)
  have HR := Lib.hid hr
  have HL := Lib.hid hr.len
  have HB := Lib.hid b0
  have HS := Lib.hid hs
  have HC := Lib.hid (fun y W => closure_any y x W)
  unfold slVal at HC ⊢
  have hlt0 : w.heap.size < (w.alloc (.cells #[.int .i64 x.mode, .int .i64 x.round, .int .i64 x.slot, .int .i64 x.desc.node, .int .i64 x.desc.kind, .int .i64 x.desc.size, .int .i64 x.desc.dur, .bool x.desc.chg] 38)).heap.size := by simp
  clear hr b0 hs
  go_enter Try.func90, Try.ntmps90
  go_wp2_with fail
  generalize w.alloc (.cells #[.int .i64 x.mode, .int .i64 x.round, .int .i64 x.slot, .int .i64 x.desc.node, .int .i64 x.desc.kind, .int .i64 x.desc.size, .int .i64 x.desc.dur, .bool x.desc.chg] 38) = w1 at HX HB hlt0 ⊢
  go_loopw [9, 10] (fun s9 s10 wr => ∃ lo hi : Nat, s9 = .int .i64 lo ∧ s10 = .int .i64 hi ∧ lo ≤ hi ∧ hi ≤ n ∧ Hid (Below w1.heap.size w1 wr) ∧ Hid (∀ q, q < lo → cmpSl (slOf t q) x < 0) ∧ Hid (∀ q, hi ≤ q → q < n → 0 ≤ cmpSl (slOf t q) x)) (fun s9 s10 _ => (intOf s10).toNat - (intOf s9).toNat)
  case atStart => exact ⟨0, n, rfl, rfl, Nat.zero_le _, Nat.le_refl _, Below.refl _ _, fun q h => absurd h (by omega), fun q h1 h2 => absurd h1 (by omega)⟩
  case round =>
    obtain ⟨lo, hi, rfl, rfl, hlh, hin, HBR, HLO, HHI⟩ := hrel
    have HXR := Lib.hid (HX.out.below HBR.out HX.out.lt)
    by_cases hlt : lo < hi
    · obtain ⟨md, hmd⟩ : ∃ md, md = (lo + hi) / 2 := ⟨_, rfl⟩
      have hm1 : lo ≤ md := by omega
      have hm2 : md < hi := by omega
      have hmn : md < n := by omega
      obtain ⟨b, off, e0, hg, hx⟩ := HR.out.at hmn
      subst e0
      have HY := Lib.hid ((hx.below HB.out hg).below HBR.out (by have := HB.out.size; omega))
      have HGO := Lib.hid (fun (h : cmpSl (slOf t md) x < 0) q (hq : q < md + 1) => sls_mono HS.out (a := q) (b := md) (by omega) (by rw [HL.out]; exact hmn) h)
      have HST := Lib.hid (fun (h : ¬ cmpSl (slOf t md) x < 0) q (hq : md ≤ q) (hqn : q < n) => (Int.not_lt.1 (fun h2 => h (sls_mono HS.out (a := md) (b := q) hq (by rw [HL.out]; exact hqn) h2)) : 0 ≤ cmpSl (slOf t q) x))
      obtain ⟨y, hy⟩ : ∃ y, y = slOf t md := ⟨_, rfl⟩
      rw [← hy] at HY HGO HST
      have HCY := Lib.hid (HC.out y)
      obtain ⟨z, hz⟩ : ∃ z, z = cmpSl y x := ⟨_, rfl⟩
      rw [← hz] at HCY HGO HST
      clear hy hx hg hz
      have hw1 : IntKind.i64.wrap ((lo : Int) + (hi : Int)) = (lo : Int) + (hi : Int) := by rw [IntKind.wrap_i64]; omega
      have hmi : ((lo : Int) + (hi : Int)) / 2 = (md : Int) := by omega
      have hmi2 : 0 ≤ (lo : Int) + (hi : Int) := by omega
      clear hmd
      have hu1 := run_underlying Try.underlying89
      have hu2 := Try.underlying89
      have hw2 : IntKind.u64.wrap ((lo : Int) + (hi : Int)) = (lo : Int) + (hi : Int) := by simp only [IntKind.wrap, IntKind.signed, IntKind.bits]; simp; omega
      go_upto_region 5 with fail
      clear hw1 hmi hmi2 hu1 hu2 hw2
      have HXW := Lib.hid (fun W (hW : Below wr.heap.size wr W) => (HXR.out.below hW HXR.out.lt).all8)
      have HYW := Lib.hid (fun W (hW : Below wr.heap.size wr W) => (HY.out.below hW HY.out.lt).all8)
      have HD := Lib.hid (show Below wr.heap.size wr wr.drew from Below.drew (Below.refl _ _))
      have hmni : (md : Int) < (n : Int) := by omega
      have hm0 : (0 : Int) ≤ (md : Int) := by omega
      by_cases hz : z < 0
      · have HF := Lib.hid (HGO.out hz)
        refine wp_region_held_drew (S := fun w' => (w'.cell? ⟨w.heap.size, 0, none⟩ = some (Value.int .i64 x.mode) ∧ w'.cell? ⟨w.heap.size, 1, none⟩ = some (Value.int .i64 x.round) ∧ w'.cell? ⟨w.heap.size, 2, none⟩ = some (Value.int .i64 x.slot) ∧ w'.cell? ⟨w.heap.size, 3, none⟩ = some (Value.int .i64 x.desc.node) ∧ w'.cell? ⟨w.heap.size, 4, none⟩ = some (Value.int .i64 x.desc.kind) ∧ w'.cell? ⟨w.heap.size, 5, none⟩ = some (Value.int .i64 x.desc.size) ∧ w'.cell? ⟨w.heap.size, 6, none⟩ = some (Value.int .i64 x.desc.dur) ∧ w'.cell? ⟨w.heap.size, 7, none⟩ = some (Value.bool x.desc.chg)) ∧ (w'.cell? ⟨b, off + md * 8, none⟩ = some (Value.int .i64 y.mode) ∧ w'.cell? ⟨b, off + md * 8 + 1, none⟩ = some (Value.int .i64 y.round) ∧ w'.cell? ⟨b, off + md * 8 + 2, none⟩ = some (Value.int .i64 y.slot) ∧ w'.cell? ⟨b, off + md * 8 + 3, none⟩ = some (Value.int .i64 y.desc.node) ∧ w'.cell? ⟨b, off + md * 8 + 4, none⟩ = some (Value.int .i64 y.desc.kind) ∧ w'.cell? ⟨b, off + md * 8 + 5, none⟩ = some (Value.int .i64 y.desc.size) ∧ w'.cell? ⟨b, off + md * 8 + 6, none⟩ = some (Value.int .i64 y.desc.dur) ∧ w'.cell? ⟨b, off + md * 8 + 7, none⟩ = some (Value.bool y.desc.chg))) (by kernel_rfl) (⟨HXW.out _ HD.out, HYW.out _ HD.out⟩) (fun hHeld => ?_)
        generalize wr.drew = w4 at HD hHeld ⊢
        refine wpAnyH_take (i := 0) (v := ?_) rfl (by kernel_rfl) (by kernel_rfl) (by kernel_rfl) (fun _ _ _ h => h) (Or.inl ⟨by rfl, ?_⟩) (by assumption) ?_
        rotate_left
        · (intro w hSw; (try dsimp only at hSw); go_simp; (try with_reducible rfl))
        try simp only [List.getElem_toArray, List.getElem_cons_succ, List.getElem_cons_zero, Act.put, List.setIfInBounds_toArray, List.set_cons_zero, List.set_cons_succ]
        refine wpAnyH_take (i := 1) (v := ?_) rfl (by kernel_rfl) (by kernel_rfl) (by kernel_rfl) (fun _ _ _ h => h) (Or.inl ⟨by rfl, ?_⟩) (by assumption) ?_
        rotate_left
        · (intro w hSw; (try dsimp only at hSw); go_simp; (try with_reducible rfl))
        try simp only [List.getElem_toArray, List.getElem_cons_succ, List.getElem_cons_zero, Act.put, List.setIfInBounds_toArray, List.set_cons_zero, List.set_cons_succ]
        refine wpAnyH_take (i := 2) (v := ?_) rfl (by kernel_rfl) (by kernel_rfl) (by kernel_rfl) (fun _ _ _ h => h) (Or.inl ⟨by rfl, ?_⟩) (by assumption) ?_
        rotate_left
        · (intro w hSw; (try dsimp only at hSw); go_simp; (try with_reducible rfl))
        try simp only [List.getElem_toArray, List.getElem_cons_succ, List.getElem_cons_zero, Act.put, List.setIfInBounds_toArray, List.set_cons_zero, List.set_cons_succ]
        refine wpAnyH_take (i := 3) (v := ?_) rfl (by kernel_rfl) (by kernel_rfl) (by kernel_rfl) (fun _ _ _ h => h) (Or.inl ⟨by rfl, ?_⟩) (by assumption) ?_
        rotate_left
        · (intro w hSw; (try dsimp only at hSw); go_simp; (try with_reducible rfl))
        try simp only [List.getElem_toArray, List.getElem_cons_succ, List.getElem_cons_zero, Act.put, List.setIfInBounds_toArray, List.set_cons_zero, List.set_cons_succ]
        refine wpAnyH_take (i := 4) (v := ?_) rfl (by kernel_rfl) (by kernel_rfl) (by kernel_rfl) (fun _ _ _ h => h) (Or.inl ⟨by rfl, ?_⟩) (by assumption) ?_
        rotate_left
        · (intro w hSw; (try dsimp only at hSw); go_simp; (try with_reducible rfl))
        try simp only [List.getElem_toArray, List.getElem_cons_succ, List.getElem_cons_zero, Act.put, List.setIfInBounds_toArray, List.set_cons_zero, List.set_cons_succ]
        refine wpAnyH_take (i := 5) (v := ?_) rfl (by kernel_rfl) (by kernel_rfl) (by kernel_rfl) (fun _ _ _ h => h) (Or.inl ⟨by rfl, ?_⟩) (by assumption) ?_
        rotate_left
        · (intro w hSw; (try dsimp only at hSw); go_simp; (try with_reducible rfl))
        try simp only [List.getElem_toArray, List.getElem_cons_succ, List.getElem_cons_zero, Act.put, List.setIfInBounds_toArray, List.set_cons_zero, List.set_cons_succ]
        refine wpAnyH_ready (rs := [6]) (by kernel_rfl) (by simp) (AllReadyH.cons rfl (fun K hK => ?_) AllReadyH.nil)
        go_simp
        refine (HCY.out _).mono ?_
        rintro e w5 ⟨rfl, b5⟩
        have HD5 := Lib.hid (below_two HD.out b5); clear b5
        go_wp2_with fail
        refine hK.out _ _ ?_ (fun hHeld => ?_)
        · exact ⟨HXW.out _ HD5.out, HYW.out _ HD5.out⟩
        clear hK K
        try simp only [List.getElem_toArray, List.getElem_cons_succ, List.getElem_cons_zero, Act.put, List.setIfInBounds_toArray, List.set_cons_zero, List.set_cons_succ]
        refine wpAnyH_take (i := 7) (v := ?_) rfl (by kernel_rfl) (by kernel_rfl) (by kernel_rfl) (fun _ _ _ h => h) (Or.inl ⟨by rfl, ?_⟩) (by assumption) ?_
        rotate_left
        · (intro w hSw; (try dsimp only at hSw); go_simp; (try with_reducible rfl))
        try simp only [List.getElem_toArray, List.getElem_cons_succ, List.getElem_cons_zero, Act.put, List.setIfInBounds_toArray, List.set_cons_zero, List.set_cons_succ]
        refine wpAnyH_done (by kernel_rfl) ?_ _
        have HBE := Lib.hid (below_two HBR.out HD5.out)
        go_wp2_with fail
        go_roundw
        case rel => exact ⟨md + 1, hi, by go_num, rfl, by omega, hin, HBE, HF, HHI⟩
        case measure => simp [intOf]; omega
      · have HF := Lib.hid (HST.out hz)
        refine wp_region_held_drew (S := fun w' => (w'.cell? ⟨w.heap.size, 0, none⟩ = some (Value.int .i64 x.mode) ∧ w'.cell? ⟨w.heap.size, 1, none⟩ = some (Value.int .i64 x.round) ∧ w'.cell? ⟨w.heap.size, 2, none⟩ = some (Value.int .i64 x.slot) ∧ w'.cell? ⟨w.heap.size, 3, none⟩ = some (Value.int .i64 x.desc.node) ∧ w'.cell? ⟨w.heap.size, 4, none⟩ = some (Value.int .i64 x.desc.kind) ∧ w'.cell? ⟨w.heap.size, 5, none⟩ = some (Value.int .i64 x.desc.size) ∧ w'.cell? ⟨w.heap.size, 6, none⟩ = some (Value.int .i64 x.desc.dur) ∧ w'.cell? ⟨w.heap.size, 7, none⟩ = some (Value.bool x.desc.chg)) ∧ (w'.cell? ⟨b, off + md * 8, none⟩ = some (Value.int .i64 y.mode) ∧ w'.cell? ⟨b, off + md * 8 + 1, none⟩ = some (Value.int .i64 y.round) ∧ w'.cell? ⟨b, off + md * 8 + 2, none⟩ = some (Value.int .i64 y.slot) ∧ w'.cell? ⟨b, off + md * 8 + 3, none⟩ = some (Value.int .i64 y.desc.node) ∧ w'.cell? ⟨b, off + md * 8 + 4, none⟩ = some (Value.int .i64 y.desc.kind) ∧ w'.cell? ⟨b, off + md * 8 + 5, none⟩ = some (Value.int .i64 y.desc.size) ∧ w'.cell? ⟨b, off + md * 8 + 6, none⟩ = some (Value.int .i64 y.desc.dur) ∧ w'.cell? ⟨b, off + md * 8 + 7, none⟩ = some (Value.bool y.desc.chg))) (by kernel_rfl) (⟨HXW.out _ HD.out, HYW.out _ HD.out⟩) (fun hHeld => ?_)
        generalize wr.drew = w4 at HD hHeld ⊢
        refine wpAnyH_take (i := 0) (v := ?_) rfl (by kernel_rfl) (by kernel_rfl) (by kernel_rfl) (fun _ _ _ h => h) (Or.inl ⟨by rfl, ?_⟩) (by assumption) ?_
        rotate_left
        · (intro w hSw; (try dsimp only at hSw); go_simp; (try with_reducible rfl))
        try simp only [List.getElem_toArray, List.getElem_cons_succ, List.getElem_cons_zero, Act.put, List.setIfInBounds_toArray, List.set_cons_zero, List.set_cons_succ]
        refine wpAnyH_take (i := 1) (v := ?_) rfl (by kernel_rfl) (by kernel_rfl) (by kernel_rfl) (fun _ _ _ h => h) (Or.inl ⟨by rfl, ?_⟩) (by assumption) ?_
        rotate_left
        · (intro w hSw; (try dsimp only at hSw); go_simp; (try with_reducible rfl))
        try simp only [List.getElem_toArray, List.getElem_cons_succ, List.getElem_cons_zero, Act.put, List.setIfInBounds_toArray, List.set_cons_zero, List.set_cons_succ]
        refine wpAnyH_take (i := 2) (v := ?_) rfl (by kernel_rfl) (by kernel_rfl) (by kernel_rfl) (fun _ _ _ h => h) (Or.inl ⟨by rfl, ?_⟩) (by assumption) ?_
        rotate_left
        · (intro w hSw; (try dsimp only at hSw); go_simp; (try with_reducible rfl))
        try simp only [List.getElem_toArray, List.getElem_cons_succ, List.getElem_cons_zero, Act.put, List.setIfInBounds_toArray, List.set_cons_zero, List.set_cons_succ]
        refine wpAnyH_take (i := 3) (v := ?_) rfl (by kernel_rfl) (by kernel_rfl) (by kernel_rfl) (fun _ _ _ h => h) (Or.inl ⟨by rfl, ?_⟩) (by assumption) ?_
        rotate_left
        · (intro w hSw; (try dsimp only at hSw); go_simp; (try with_reducible rfl))
        try simp only [List.getElem_toArray, List.getElem_cons_succ, List.getElem_cons_zero, Act.put, List.setIfInBounds_toArray, List.set_cons_zero, List.set_cons_succ]
        refine wpAnyH_take (i := 4) (v := ?_) rfl (by kernel_rfl) (by kernel_rfl) (by kernel_rfl) (fun _ _ _ h => h) (Or.inl ⟨by rfl, ?_⟩) (by assumption) ?_
        rotate_left
        · (intro w hSw; (try dsimp only at hSw); go_simp; (try with_reducible rfl))
        try simp only [List.getElem_toArray, List.getElem_cons_succ, List.getElem_cons_zero, Act.put, List.setIfInBounds_toArray, List.set_cons_zero, List.set_cons_succ]
        refine wpAnyH_take (i := 5) (v := ?_) rfl (by kernel_rfl) (by kernel_rfl) (by kernel_rfl) (fun _ _ _ h => h) (Or.inl ⟨by rfl, ?_⟩) (by assumption) ?_
        rotate_left
        · (intro w hSw; (try dsimp only at hSw); go_simp; (try with_reducible rfl))
        try simp only [List.getElem_toArray, List.getElem_cons_succ, List.getElem_cons_zero, Act.put, List.setIfInBounds_toArray, List.set_cons_zero, List.set_cons_succ]
        refine wpAnyH_ready (rs := [6]) (by kernel_rfl) (by simp) (AllReadyH.cons rfl (fun K hK => ?_) AllReadyH.nil)
        go_simp
        refine (HCY.out _).mono ?_
        rintro e w5 ⟨rfl, b5⟩
        have HD5 := Lib.hid (below_two HD.out b5); clear b5
        go_wp2_with fail
        refine hK.out _ _ ?_ (fun hHeld => ?_)
        · exact ⟨HXW.out _ HD5.out, HYW.out _ HD5.out⟩
        clear hK K
        try simp only [List.getElem_toArray, List.getElem_cons_succ, List.getElem_cons_zero, Act.put, List.setIfInBounds_toArray, List.set_cons_zero, List.set_cons_succ]
        refine wpAnyH_take (i := 7) (v := ?_) rfl (by kernel_rfl) (by kernel_rfl) (by kernel_rfl) (fun _ _ _ h => h) (Or.inl ⟨by rfl, ?_⟩) (by assumption) ?_
        rotate_left
        · (intro w hSw; (try dsimp only at hSw); go_simp; (try with_reducible rfl))
        try simp only [List.getElem_toArray, List.getElem_cons_succ, List.getElem_cons_zero, Act.put, List.setIfInBounds_toArray, List.set_cons_zero, List.set_cons_succ]
        refine wpAnyH_done (by kernel_rfl) ?_ _
        have HBE := Lib.hid (below_two HBR.out HD5.out)
        go_wp2_with fail
        go_roundw
        case rel => exact ⟨lo, md, rfl, rfl, by omega, by omega, HBE, HLO, HF⟩
        case measure => simp [intOf]; omega
    · have hle : hi = lo := by omega
      subst hle
      by_cases hln : hi < n
      · obtain ⟨b, off, e0, hg, hx⟩ := HR.out.at hln
        subst e0
        have HY := Lib.hid ((hx.below HB.out hg).below HBR.out (by have := HB.out.size; omega))
        obtain ⟨y, hy⟩ : ∃ y, y = slOf t hi := ⟨_, rfl⟩
        rw [← hy] at HY
        have HCY := Lib.hid (HC.out y)
        obtain ⟨z, hz⟩ : ∃ z, z = cmpSl y x := ⟨_, rfl⟩
        rw [← hz] at HCY
        clear hy hx hg hz
        have hln1 : (hi : Int) < (n : Int) := by omega
        have hln0 : (0 : Int) ≤ (hi : Int) := by omega
        go_upto_region 8 with fail
        have HXW := Lib.hid (fun W (hW : Below wr.heap.size wr W) => (HXR.out.below hW HXR.out.lt).all8)
        have HYW := Lib.hid (fun W (hW : Below wr.heap.size wr W) => (HY.out.below hW HY.out.lt).all8)
        have HD := Lib.hid (show Below wr.heap.size wr wr.drew from Below.drew (Below.refl _ _))
        refine wp_region_held_drew (S := fun w' => (w'.cell? ⟨w.heap.size, 0, none⟩ = some (Value.int .i64 x.mode) ∧ w'.cell? ⟨w.heap.size, 1, none⟩ = some (Value.int .i64 x.round) ∧ w'.cell? ⟨w.heap.size, 2, none⟩ = some (Value.int .i64 x.slot) ∧ w'.cell? ⟨w.heap.size, 3, none⟩ = some (Value.int .i64 x.desc.node) ∧ w'.cell? ⟨w.heap.size, 4, none⟩ = some (Value.int .i64 x.desc.kind) ∧ w'.cell? ⟨w.heap.size, 5, none⟩ = some (Value.int .i64 x.desc.size) ∧ w'.cell? ⟨w.heap.size, 6, none⟩ = some (Value.int .i64 x.desc.dur) ∧ w'.cell? ⟨w.heap.size, 7, none⟩ = some (Value.bool x.desc.chg)) ∧ (w'.cell? ⟨b, off + hi * 8, none⟩ = some (Value.int .i64 y.mode) ∧ w'.cell? ⟨b, off + hi * 8 + 1, none⟩ = some (Value.int .i64 y.round) ∧ w'.cell? ⟨b, off + hi * 8 + 2, none⟩ = some (Value.int .i64 y.slot) ∧ w'.cell? ⟨b, off + hi * 8 + 3, none⟩ = some (Value.int .i64 y.desc.node) ∧ w'.cell? ⟨b, off + hi * 8 + 4, none⟩ = some (Value.int .i64 y.desc.kind) ∧ w'.cell? ⟨b, off + hi * 8 + 5, none⟩ = some (Value.int .i64 y.desc.size) ∧ w'.cell? ⟨b, off + hi * 8 + 6, none⟩ = some (Value.int .i64 y.desc.dur) ∧ w'.cell? ⟨b, off + hi * 8 + 7, none⟩ = some (Value.bool y.desc.chg))) (by kernel_rfl) (⟨HXW.out _ HD.out, HYW.out _ HD.out⟩) (fun hHeld => ?_)
        generalize wr.drew = w4 at HD hHeld ⊢
        refine wpAnyH_take (i := 0) (v := ?_) rfl (by kernel_rfl) (by kernel_rfl) (by kernel_rfl) (fun _ _ _ h => h) (Or.inl ⟨by rfl, ?_⟩) (by assumption) ?_
        rotate_left
        · (intro w hSw; (try dsimp only at hSw); go_simp; (try with_reducible rfl))
        try simp only [List.getElem_toArray, List.getElem_cons_succ, List.getElem_cons_zero, Act.put, List.setIfInBounds_toArray, List.set_cons_zero, List.set_cons_succ]
        refine wpAnyH_take (i := 1) (v := ?_) rfl (by kernel_rfl) (by kernel_rfl) (by kernel_rfl) (fun _ _ _ h => h) (Or.inl ⟨by rfl, ?_⟩) (by assumption) ?_
        rotate_left
        · (intro w hSw; (try dsimp only at hSw); go_simp; (try with_reducible rfl))
        try simp only [List.getElem_toArray, List.getElem_cons_succ, List.getElem_cons_zero, Act.put, List.setIfInBounds_toArray, List.set_cons_zero, List.set_cons_succ]
        refine wpAnyH_take (i := 2) (v := ?_) rfl (by kernel_rfl) (by kernel_rfl) (by kernel_rfl) (fun _ _ _ h => h) (Or.inl ⟨by rfl, ?_⟩) (by assumption) ?_
        rotate_left
        · (intro w hSw; (try dsimp only at hSw); go_simp; (try with_reducible rfl))
        try simp only [List.getElem_toArray, List.getElem_cons_succ, List.getElem_cons_zero, Act.put, List.setIfInBounds_toArray, List.set_cons_zero, List.set_cons_succ]
        refine wpAnyH_take (i := 3) (v := ?_) rfl (by kernel_rfl) (by kernel_rfl) (by kernel_rfl) (fun _ _ _ h => h) (Or.inl ⟨by rfl, ?_⟩) (by assumption) ?_
        rotate_left
        · (intro w hSw; (try dsimp only at hSw); go_simp; (try with_reducible rfl))
        try simp only [List.getElem_toArray, List.getElem_cons_succ, List.getElem_cons_zero, Act.put, List.setIfInBounds_toArray, List.set_cons_zero, List.set_cons_succ]
        refine wpAnyH_take (i := 4) (v := ?_) rfl (by kernel_rfl) (by kernel_rfl) (by kernel_rfl) (fun _ _ _ h => h) (Or.inl ⟨by rfl, ?_⟩) (by assumption) ?_
        rotate_left
        · (intro w hSw; (try dsimp only at hSw); go_simp; (try with_reducible rfl))
        try simp only [List.getElem_toArray, List.getElem_cons_succ, List.getElem_cons_zero, Act.put, List.setIfInBounds_toArray, List.set_cons_zero, List.set_cons_succ]
        refine wpAnyH_take (i := 5) (v := ?_) rfl (by kernel_rfl) (by kernel_rfl) (by kernel_rfl) (fun _ _ _ h => h) (Or.inl ⟨by rfl, ?_⟩) (by assumption) ?_
        rotate_left
        · (intro w hSw; (try dsimp only at hSw); go_simp; (try with_reducible rfl))
        try simp only [List.getElem_toArray, List.getElem_cons_succ, List.getElem_cons_zero, Act.put, List.setIfInBounds_toArray, List.set_cons_zero, List.set_cons_succ]
        refine wpAnyH_take (i := 6) (v := ?_) rfl (by kernel_rfl) (by kernel_rfl) (by kernel_rfl) (fun _ _ _ h => h) (Or.inl ⟨by rfl, ?_⟩) (by assumption) ?_
        rotate_left
        · (intro w hSw; (try dsimp only at hSw); go_simp; (try with_reducible rfl))
        try simp only [List.getElem_toArray, List.getElem_cons_succ, List.getElem_cons_zero, Act.put, List.setIfInBounds_toArray, List.set_cons_zero, List.set_cons_succ]
        refine wpAnyH_take (i := 7) (v := ?_) rfl (by kernel_rfl) (by kernel_rfl) (by kernel_rfl) (fun _ _ _ h => h) (Or.inl ⟨by rfl, ?_⟩) (by assumption) ?_
        rotate_left
        · (intro w hSw; (try dsimp only at hSw); go_simp; (try with_reducible rfl))
        try simp only [List.getElem_toArray, List.getElem_cons_succ, List.getElem_cons_zero, Act.put, List.setIfInBounds_toArray, List.set_cons_zero, List.set_cons_succ]
        refine wpAnyH_take (i := 8) (v := ?_) rfl (by kernel_rfl) (by kernel_rfl) (by kernel_rfl) (fun _ _ _ h => h) (Or.inl ⟨by rfl, ?_⟩) (by assumption) ?_
        rotate_left
        · (intro w hSw; (try dsimp only at hSw); go_simp; (try with_reducible rfl))
        try simp only [List.getElem_toArray, List.getElem_cons_succ, List.getElem_cons_zero, Act.put, List.setIfInBounds_toArray, List.set_cons_zero, List.set_cons_succ]
        refine wpAnyH_take (i := 9) (v := ?_) rfl (by kernel_rfl) (by kernel_rfl) (by kernel_rfl) (fun _ _ _ h => h) (Or.inl ⟨by rfl, ?_⟩) (by assumption) ?_
        rotate_left
        · (intro w hSw; (try dsimp only at hSw); go_simp; (try with_reducible rfl))
        try simp only [List.getElem_toArray, List.getElem_cons_succ, List.getElem_cons_zero, Act.put, List.setIfInBounds_toArray, List.set_cons_zero, List.set_cons_succ]
        refine wpAnyH_take (i := 10) (v := ?_) rfl (by kernel_rfl) (by kernel_rfl) (by kernel_rfl) (fun _ _ _ h => h) (Or.inl ⟨by rfl, ?_⟩) (by assumption) ?_
        rotate_left
        · (intro w hSw; (try dsimp only at hSw); go_simp; (try with_reducible rfl))
        try simp only [List.getElem_toArray, List.getElem_cons_succ, List.getElem_cons_zero, Act.put, List.setIfInBounds_toArray, List.set_cons_zero, List.set_cons_succ]
        refine wpAnyH_ready (rs := [11]) (by kernel_rfl) (by simp) (AllReadyH.cons rfl (fun K hK => ?_) AllReadyH.nil)
        go_simp
        refine (HCY.out _).mono ?_
        rintro e w5 ⟨rfl, b5⟩
        have HD5 := Lib.hid (below_two HD.out b5); clear b5
        go_wp2_with fail
        refine hK.out _ _ ?_ (fun hHeld => ?_)
        · exact ⟨HXW.out _ HD5.out, HYW.out _ HD5.out⟩
        clear hK K
        try simp only [List.getElem_toArray, List.getElem_cons_succ, List.getElem_cons_zero, Act.put, List.setIfInBounds_toArray, List.set_cons_zero, List.set_cons_succ]
        refine wpAnyH_take (i := 12) (v := ?_) rfl (by kernel_rfl) (by kernel_rfl) (by kernel_rfl) (fun _ _ _ h => h) (Or.inl ⟨by rfl, ?_⟩) (by assumption) ?_
        rotate_left
        · (intro w hSw; (try dsimp only at hSw); go_simp; (try with_reducible rfl))
        try simp only [List.getElem_toArray, List.getElem_cons_succ, List.getElem_cons_zero, Act.put, List.setIfInBounds_toArray, List.set_cons_zero, List.set_cons_succ]
        refine wpAnyH_take (i := 13) (v := ?_) rfl (by kernel_rfl) (by kernel_rfl) (by kernel_rfl) (fun _ _ _ h => h) (Or.inl ⟨by rfl, ?_⟩) (by assumption) ?_
        rotate_left
        · (intro w hSw; (try dsimp only at hSw); go_simp; (try with_reducible rfl))
        try simp only [List.getElem_toArray, List.getElem_cons_succ, List.getElem_cons_zero, Act.put, List.setIfInBounds_toArray, List.set_cons_zero, List.set_cons_succ]
        refine wpAnyH_take (i := 14) (v := ?_) rfl (by kernel_rfl) (by kernel_rfl) (by kernel_rfl) (fun _ _ _ h => h) (Or.inl ⟨by rfl, ?_⟩) (by assumption) ?_
        rotate_left
        · (intro w hSw; (try dsimp only at hSw); go_simp; (try with_reducible rfl))
        try simp only [List.getElem_toArray, List.getElem_cons_succ, List.getElem_cons_zero, Act.put, List.setIfInBounds_toArray, List.set_cons_zero, List.set_cons_succ]
        refine wpAnyH_take (i := 15) (v := ?_) rfl (by kernel_rfl) (by kernel_rfl) (by kernel_rfl) (fun _ _ _ h => h) (Or.inl ⟨by rfl, ?_⟩) (by assumption) ?_
        rotate_left
        · (intro w hSw; (try dsimp only at hSw); go_simp; (try with_reducible rfl))
        try simp only [List.getElem_toArray, List.getElem_cons_succ, List.getElem_cons_zero, Act.put, List.setIfInBounds_toArray, List.set_cons_zero, List.set_cons_succ]
        refine wpAnyH_done (by kernel_rfl) ?_ _
        have HBE := Lib.hid (below_two (below_two HB.out HBR.out) HD5.out)
        go_wp2_with fail
        go_ret2
        first | exact ⟨hi, _, rfl, hin, HLO.out, HHI.out, HBE.out⟩ | exact ⟨hi, rfl, hin, HLO.out, HHI.out, HBE.out⟩ | exact ⟨hi, by simp, hin, HLO.out, HHI.out, HBE.out⟩ | exact ⟨hin, HLO.out, HHI.out, HBE.out⟩
      · have hln1 : ¬ (hi : Int) < (n : Int) := by omega
        have hden : decide ((hi : Int) < (n : Int)) = false := decide_eq_false hln1
        go_upto_region 8 with fail
        have HD := Lib.hid (show Below wr.heap.size wr wr.drew from Below.drew (Below.refl _ _))
        refine wp_region_held_drew (S := fun w' => True) (by kernel_rfl) (trivial) (fun hHeld => ?_)
        generalize wr.drew = w4 at HD hHeld ⊢
        refine wpAnyH_take (i := 0) (v := ?_) rfl (by kernel_rfl) (by kernel_rfl) (by kernel_rfl) (fun _ _ _ h => h) (Or.inl ⟨by rfl, ?_⟩) (by assumption) ?_
        rotate_left
        · (intro w hSw; (try dsimp only at hSw); go_simp; (try with_reducible rfl))
        try simp only [List.getElem_toArray, List.getElem_cons_succ, List.getElem_cons_zero, Act.put, List.setIfInBounds_toArray, List.set_cons_zero, List.set_cons_succ]
        refine wpAnyH_take (i := 1) (v := ?_) rfl (by kernel_rfl) (by kernel_rfl) (by kernel_rfl) (fun _ _ _ h => h) (Or.inl ⟨by rfl, ?_⟩) (by assumption) ?_
        rotate_left
        · (intro w hSw; (try dsimp only at hSw); go_simp; (try with_reducible rfl))
        try simp only [List.getElem_toArray, List.getElem_cons_succ, List.getElem_cons_zero, Act.put, List.setIfInBounds_toArray, List.set_cons_zero, List.set_cons_succ]
        refine wpAnyH_take (i := 2) (v := ?_) rfl (by kernel_rfl) (by kernel_rfl) (by kernel_rfl) (fun _ _ _ h => h) (Or.inl ⟨by rfl, ?_⟩) (by assumption) ?_
        rotate_left
        · (intro w hSw; (try dsimp only at hSw); go_simp; (try with_reducible rfl))
        try simp only [List.getElem_toArray, List.getElem_cons_succ, List.getElem_cons_zero, Act.put, List.setIfInBounds_toArray, List.set_cons_zero, List.set_cons_succ]
        refine wpAnyH_take (i := 3) (v := ?_) rfl (by kernel_rfl) (by kernel_rfl) (by kernel_rfl) (fun _ _ _ h => h) (Or.inl ⟨by rfl, ?_⟩) (by assumption) ?_
        rotate_left
        · (intro w hSw; (try dsimp only at hSw); go_simp; (try with_reducible rfl))
        try simp only [List.getElem_toArray, List.getElem_cons_succ, List.getElem_cons_zero, Act.put, List.setIfInBounds_toArray, List.set_cons_zero, List.set_cons_succ]
        refine wpAnyH_take (i := 4) (v := ?_) rfl (by kernel_rfl) (by kernel_rfl) (by kernel_rfl) (fun _ _ _ h => h) (Or.inl ⟨by rfl, ?_⟩) (by assumption) ?_
        rotate_left
        · (intro w hSw; (try dsimp only at hSw); go_simp; (try with_reducible rfl))
        try simp only [List.getElem_toArray, List.getElem_cons_succ, List.getElem_cons_zero, Act.put, List.setIfInBounds_toArray, List.set_cons_zero, List.set_cons_succ]
        refine wpAnyH_take (i := 5) (v := undef) rfl (by kernel_rfl) (by kernel_rfl) (by kernel_rfl) (fun _ _ _ h => h) (Or.inr ⟨by rfl, rfl⟩) (by assumption) ?_
        try simp only [List.getElem_toArray, List.getElem_cons_succ, List.getElem_cons_zero, Act.put, List.setIfInBounds_toArray, List.set_cons_zero, List.set_cons_succ]
        refine wpAnyH_take (i := 6) (v := undef) rfl (by kernel_rfl) (by kernel_rfl) (by kernel_rfl) (fun _ _ _ h => h) (Or.inr ⟨by rfl, rfl⟩) (by assumption) ?_
        try simp only [List.getElem_toArray, List.getElem_cons_succ, List.getElem_cons_zero, Act.put, List.setIfInBounds_toArray, List.set_cons_zero, List.set_cons_succ]
        refine wpAnyH_take (i := 7) (v := undef) rfl (by kernel_rfl) (by kernel_rfl) (by kernel_rfl) (fun _ _ _ h => h) (Or.inr ⟨by rfl, rfl⟩) (by assumption) ?_
        try simp only [List.getElem_toArray, List.getElem_cons_succ, List.getElem_cons_zero, Act.put, List.setIfInBounds_toArray, List.set_cons_zero, List.set_cons_succ]
        refine wpAnyH_take (i := 8) (v := undef) rfl (by kernel_rfl) (by kernel_rfl) (by kernel_rfl) (fun _ _ _ h => h) (Or.inr ⟨by rfl, rfl⟩) (by assumption) ?_
        try simp only [List.getElem_toArray, List.getElem_cons_succ, List.getElem_cons_zero, Act.put, List.setIfInBounds_toArray, List.set_cons_zero, List.set_cons_succ]
        refine wpAnyH_take (i := 9) (v := undef) rfl (by kernel_rfl) (by kernel_rfl) (by kernel_rfl) (fun _ _ _ h => h) (Or.inr ⟨by rfl, rfl⟩) (by assumption) ?_
        try simp only [List.getElem_toArray, List.getElem_cons_succ, List.getElem_cons_zero, Act.put, List.setIfInBounds_toArray, List.set_cons_zero, List.set_cons_succ]
        refine wpAnyH_take (i := 10) (v := undef) rfl (by kernel_rfl) (by kernel_rfl) (by kernel_rfl) (fun _ _ _ h => h) (Or.inr ⟨by rfl, rfl⟩) (by assumption) ?_
        try simp only [List.getElem_toArray, List.getElem_cons_succ, List.getElem_cons_zero, Act.put, List.setIfInBounds_toArray, List.set_cons_zero, List.set_cons_succ]
        refine wpAnyH_take (i := 11) (v := undef) rfl (by kernel_rfl) (by kernel_rfl) (by kernel_rfl) (fun _ _ _ h => h) (Or.inr ⟨by rfl, rfl⟩) (by assumption) ?_
        try simp only [List.getElem_toArray, List.getElem_cons_succ, List.getElem_cons_zero, Act.put, List.setIfInBounds_toArray, List.set_cons_zero, List.set_cons_succ]
        refine wpAnyH_take (i := 12) (v := undef) rfl (by kernel_rfl) (by kernel_rfl) (by kernel_rfl) (fun _ _ _ h => h) (Or.inr ⟨by rfl, rfl⟩) (by assumption) ?_
        try simp only [List.getElem_toArray, List.getElem_cons_succ, List.getElem_cons_zero, Act.put, List.setIfInBounds_toArray, List.set_cons_zero, List.set_cons_succ]
        refine wpAnyH_take (i := 13) (v := ?_) rfl (by kernel_rfl) (by kernel_rfl) (by kernel_rfl) (fun _ _ _ h => h) (Or.inl ⟨by rfl, ?_⟩) (by assumption) ?_
        rotate_left
        · (intro w hSw; (try dsimp only at hSw); go_simp; (try with_reducible rfl))
        try simp only [List.getElem_toArray, List.getElem_cons_succ, List.getElem_cons_zero, Act.put, List.setIfInBounds_toArray, List.set_cons_zero, List.set_cons_succ]
        refine wpAnyH_take (i := 14) (v := ?_) rfl (by kernel_rfl) (by kernel_rfl) (by kernel_rfl) (fun _ _ _ h => h) (Or.inl ⟨by rfl, ?_⟩) (by assumption) ?_
        rotate_left
        · (intro w hSw; (try dsimp only at hSw); go_simp; (try with_reducible rfl))
        try simp only [List.getElem_toArray, List.getElem_cons_succ, List.getElem_cons_zero, Act.put, List.setIfInBounds_toArray, List.set_cons_zero, List.set_cons_succ]
        refine wpAnyH_take (i := 15) (v := ?_) rfl (by kernel_rfl) (by kernel_rfl) (by kernel_rfl) (fun _ _ _ h => h) (Or.inl ⟨by rfl, ?_⟩) (by assumption) ?_
        rotate_left
        · (intro w hSw; (try dsimp only at hSw); go_simp; (try with_reducible rfl))
        try simp only [List.getElem_toArray, List.getElem_cons_succ, List.getElem_cons_zero, Act.put, List.setIfInBounds_toArray, List.set_cons_zero, List.set_cons_succ]
        refine wpAnyH_done (by kernel_rfl) ?_ _
        have HBE := Lib.hid (below_two (below_two HB.out HBR.out) HD.out)
        go_wp2_with fail
        go_ret2
        first | exact ⟨hi, _, rfl, hin, HLO.out, HHI.out, HBE.out⟩ | exact ⟨hi, rfl, hin, HLO.out, HHI.out, HBE.out⟩ | exact ⟨hi, by simp, hin, HLO.out, HHI.out, HBE.out⟩ | exact ⟨hin, HLO.out, HHI.out, HBE.out⟩
end

section
open Go.RowKit

theorem flatE_cells {w : World} {ao : Option Addr} {n : Nat} {u : List Sl} {ad : Addr} (hr : RdE w ao n u) (e : ao = some ad) (j : Nat) (val : Value) (h : (u.flatMap slCells)[j]? = some val) : w.cell? (ad.add j) = some val := by
  have hj : j < u.length * 8 := by have := (List.getElem?_eq_some_iff.1 h).1; rwa [flatE_len] at this
  have hl := hr.len
  obtain ⟨b, off, e2, hc⟩ := hr.here (by omega)
  have e3 : ad = ⟨b, off, none⟩ := Option.some.inj (e.symm.trans e2)
  subst e3
  have h8 : j % 8 < 8 := by omega
  have hd : j = (j / 8) * 8 + j % 8 := by omega
  have hi := hc (j / 8) (by omega)
  rw [hd, flatE_get u (j / 8) (j % 8) (by omega) h8] at h
  rw [Addr.add_lit, hd]
  generalize slOf u (j / 8) = x at hi h
  generalize j / 8 = q at hi
  generalize j % 8 = r at h h8
  rw [show off + (q * 8 + r) = off + q * 8 + r from by omega]
  match r, h8 with
  | 0, _ => simp [slCells] at h; rw [← h]; exact hi.c0
  | 1, _ => simp [slCells] at h; rw [← h]; exact hi.c1
  | 2, _ => simp [slCells] at h; rw [← h]; exact hi.c2
  | 3, _ => simp [slCells] at h; rw [← h]; exact hi.c3
  | 4, _ => simp [slCells] at h; rw [← h]; exact hi.c4
  | 5, _ => simp [slCells] at h; rw [← h]; exact hi.c5
  | 6, _ => simp [slCells] at h; rw [← h]; exact hi.c6
  | 7, _ => simp [slCells] at h; rw [← h]; exact hi.c7
section
variable {P : Program} {E T : Nat} (w : World) {ops : Array Oper} {rest : List Oper} {o : Oper} {a : Act} {Q : Exit → Act → World → Prop}
/-- 'append(out, xs...)' of a whole slice of entries, a nil one too. -/
theorem append_sls (hgd : o.guard = none) (s x : Operand)
    (ho : o.op = .call { callee := .builtin .append, args := #[s, x], argTypes := #[T, T] })
    (base : Nat) (ht : P.underlying T = some (.slice E)) (hi : InfoSl P E)
    (v : Value) (t : List Sl) (hs : a.eval s = v) (hown : OwnE E w base v t) (ao : Option Addr) (n c : Nat) (u : List Sl) (hx : a.eval x = .slice ao n c) (hr : RdE w ao n u)
    (hlen : t.length + n ≤ 1073741824) (hbase : base ≤ w.heap.size)
    (h : ∀ v' w', OwnE E w' base v' (t ++ u) → Below base w w' → wpList P ops Q rest (a.put o.dst v') w') : wpList P ops Q (o :: rest) a w := by
  obtain ⟨i0, hi, hz0, hz1, hz2⟩ := info_parts_sl hi
  rcases ao with _ | ad
  · have hn : n = 0 := by
      rcases Nat.eq_zero_or_pos n with h0 | h0
      · exact h0
      · obtain ⟨_, _, e, _⟩ := hr.here h0; cases e
    subst hn
    have hys : u = [] := List.length_eq_zero_iff.1 hr.len
    subst hys
    refine wpList_plain hgd fun K hK => ?_
    have hrun : (Builtin.append_ #[T, T] o.type #[v, .slice none 0 c]).run P w = .ok v w := by
      have hown0 := hown
      rcases hown0.2 with ⟨rfl, _⟩ | ⟨g, cap, cur, rfl, _, _, hnc, _⟩
      · simp [Builtin.append_, run_underlying ht, sizeOf, typeInfo, hi, Builtin.lenOf, Builtin.firstCells]
      · simp [Builtin.append_, run_underlying ht, sizeOf, typeInfo, hi, Builtin.lenOf, Builtin.firstCells, hnc, storeCells]
    unfold Oper.wp
    simp [execOp, ho, resolve, invoke, builtin, hs, hx, hrun, Result.andThen]
    exact hK _ _ (h v w (by simpa using hown) (Below.refl _ _))
  · refine wpList_append_own w hgd s x T ho base E i0 (slVal Sl.zero) 8 64 ht hi hz0 hz1 hz2 (by rw [cells_zero_sl]; rfl) (by decide) v t.length (t.flatMap slCells) hs hown ad n c (u.flatMap slCells) hx (by rw [flatE_len, hr.len]) (flatE_cells hr rfl) ?_ (by unfold maxLen; omega) (by omega) hbase ?_
    · intro u' hu
      obtain ⟨y, -, hy⟩ := List.mem_flatMap.1 hu
      simp [slCells] at hy; rcases hy with rfl | rfl | rfl | rfl | rfl | rfl | rfl | rfl <;> rfl
    · intro v' w' h1 h2 _
      refine h v' w' ?_ ((Below.refl _ _).grown h2 hbase fun k hk => (hown.block k hk).1)
      unfold OwnE
      rw [List.length_append, hr.len, List.flatMap_append]
      exact h1
end
theorem info64_intS : (Try.prog.underlying 3) = some (.int .i64) := by kernel_rfl
set_option maxRecDepth 100000 in
set_option maxHeartbeats 1000000 in
/-- slices.Grow of nil: an empty slice of the call's own. -/
theorem growSl_any (n : Nat) (w : World) (h0 : 0 < n) (hn : n ≤ 20000) : Calls Try.prog 139 #[.slice none 0 0, .int .i64 n] w (MakesE 38 w []) := by
  obtain ⟨i0, hi, hz0, hz1, hz2⟩ := info_parts_sl (P := Try.prog) (E := 38) infoSl
  have hrun := fun ty => Lib.run_append_nil_zeros (P := Try.prog) w 24 3 ty 38 i0 (slVal Sl.zero) .i64 .i64 Try.underlying24 info64_intS hi hz0 n h0 (by rw [hz1]; decide) (by omega) (by rw [hz2]; omega)
  have hge := grownCap_ge w n 0 38
  have hcm : grownCap w n 0 38 ≤ maxLen := grownCap_le_maxLen w n 0 38 (by unfold maxLen; omega)
  generalize grownCap w n 0 38 = gc at hrun hge hcm
  obtain ⟨cur, hcur⟩ : ∃ cur, Builtin.zeroCells (slVal Sl.zero).cells n ++ Builtin.zeroCells (slVal Sl.zero).cells (gc - n) = cur := ⟨_, rfl⟩
  have hsz : cur.size = gc * 8 := by rw [← hcur, Array.size_append, size_zeroCells, size_zeroCells, cells_zero_sl]; simp; omega
  rw [hcur] at hrun
  have hRUN := Lib.hid hrun; clear hrun hcur
  have hk0 : ¬ ((n : Int) < 0) := by omega
  have hk1 : (0 : Int) < (n : Int) := by omega
  have hgc : (0 : Int) ≤ (gc : Int) := by omega
  have hbl : Below w.heap.size w (w.drew.alloc (.cells cur 38)) := ((Below.refl _ _).drew).alloc (Nat.le_refl _) _
  have hown : OwnE 38 (w.drew.alloc (.cells cur 38)) w.heap.size (.slice (some ⟨w.heap.size, 0, none⟩) 0 gc) [] :=
    ⟨by simp, .inr ⟨w.heap.size, gc, cur, by simp, Nat.le_refl _, heap_alloc_new w.drew _, by simp, hcm, by rw [hsz], by simp⟩⟩
  have HO := Lib.hid hown; have HBL := Lib.hid hbl; clear hown hbl hsz hi hz0 hz1 hz2
  go_enter Try.func139, Try.ntmps139
  go_wp2_with (at_builtin; refine Lib.wpList_append_run w rfl (.tmp 20) (.tmp 21) 24 3 rfl (.slice none 0 0) (.int .i64 n) rfl rfl _ _ (hRUN.out _) ?_)
  go_ret
  exact ⟨_, rfl, HO.out, HBL.out⟩
/-! ### Concat -/
def sumN (N : Nat → Nat) : Nat → Nat
  | 0 => 0
  | k + 1 => sumN N k + N k
def catT (T : Nat → List Sl) : Nat → List Sl
  | 0 => []
  | k + 1 => catT T k ++ T k
theorem catT_len {N : Nat → Nat} {T : Nat → List Sl} {M : Nat} (h : ∀ i, i < M → (T i).length = N i) : ∀ k, k ≤ M → (catT T k).length = sumN N k
  | 0, _ => rfl
  | k + 1, hk => by rw [catT, sumN, List.length_append, catT_len h k (by omega), h k (by omega)]
theorem sumN_le {N : Nat → Nat} {B : Nat} (h : ∀ i, N i ≤ B) : ∀ k, sumN N k ≤ k * B
  | 0 => by simp [sumN]
  | k + 1 => by have := sumN_le h k; have := h k; rw [sumN, Nat.succ_mul]; omega
set_option maxRecDepth 100000 in
set_option maxHeartbeats 2000000 in
theorem concatSl_any (G M cap : Nat) (A : Nat → Option Addr) (N C : Nat → Nat) (T : Nat → List Sl) (w : World) (hM : M ≤ 10) (hc : ∀ i, i < M → w.cell? ⟨G, i, none⟩ = some (.slice (A i) (N i) (C i))) (hr : ∀ i, i < M → RdE w (A i) (N i) (T i)) (hN : ∀ i, N i ≤ 1000) (hpos : 0 < sumN N M) (hG : G < w.heap.size) :
    Calls Try.prog 92 #[.slice (some ⟨G, 0, none⟩) M cap] w (MakesE 38 w (catT T M)) := by
  have HC := Lib.hid hc; have HR := Lib.hid hr
  have HTL := Lib.hid (catT_len (fun i hi => (hr i hi).len))
  have HSL := Lib.hid (fun k => sumN_le (B := 1000) hN k)
  have HN := Lib.hid hN
  clear hc hr hN
  go_enter Try.func92, Try.ntmps92
  go_wp2
  go_loopw [3, 5, 11] (fun sz _u i wr => ∃ k : Nat, k ≤ M ∧ i = .int .i64 k ∧ sz = .int .i64 ((sumN N k : Nat) : Int) ∧ w = wr) (fun _ _ i _ => M - (intOf i).toNat)
  case atStart => exact ⟨0, Nat.zero_le _, rfl, rfl, rfl⟩
  case round =>
    obtain ⟨k, hk, rfl, rfl, rfl⟩ := hrel
    by_cases hlt : k < M
    · have hck := HC.out k hlt
      have h1 := HSL.out k
      have h2 := HN.out k
      have h3 : k * 1000 ≤ 10000 := by omega
      have hsn : sumN N (k + 1) = sumN N k + N k := rfl
      have HSN := Lib.hid hsn
      generalize sumN N k = s at h1 hsn HSN ⊢
      generalize N k = nk at h2 hsn HSN hck
      have hw1 : IntKind.i64.wrap ((s : Int) + (nk : Int)) = (s : Int) + (nk : Int) := by rw [IntKind.wrap_i64]; omega
      have hw2 : ¬ ((s : Int) + (nk : Int) < 0) := by omega
      clear hsn h1 h2 h3
      go_wp2
      go_roundw
      case rel => exact ⟨k + 1, by omega, by go_num, by rw [HSN.out]; simp, by first | rfl | trivial⟩
      case measure => simp [intOf]; omega
    · have hkn : k = M := by omega
      subst hkn
      have h1 := HSL.out k
      have H139 := Lib.hid (growSl_any (sumN N k) w hpos (by omega))
      clear h1
      go_wp2_with fail
      refine H139.out.mono ?_
      rintro e w1 m1
      obtain ⟨pg, cg, rfl, og, -, bg⟩ := m1.get
      have OG := Lib.hid og
      have BG := Lib.hid bg
      clear m1 og bg H139
      go_wp2
      go_loopw [6, 8, 27] (fun s _u i wr => ∃ (q : Nat) (v : Value), q ≤ k ∧ v = s ∧ i = .int .i64 q ∧ Hid (OwnE 38 wr w.heap.size v (catT T q)) ∧ Hid (Below w.heap.size w wr)) (fun _ _ i _ => k - (intOf i).toNat)
      case atStart => exact ⟨0, _, Nat.zero_le _, rfl, rfl, OG.out, BG.out⟩
      case round =>
        clear OG BG
        obtain ⟨q, v, hq, rfl, rfl, HO, HB⟩ := hrel
        by_cases hqk : q < k
        · have hck := (HB.out.cell (p := ⟨G, q, none⟩) hG).trans (HC.out q hqk)
          have hrk := (HR.out q hqk).below HB.out
          have hlen : (catT T q).length + N q ≤ 1073741824 := by have h1 := HTL.out q (by omega); have h2 := HSL.out q; have h3 := HN.out q; omega
          have HE := Lib.hid (show catT T (q + 1) = catT T q ++ T q from rfl)
          have HRK := Lib.hid hrk
          have hbs := HB.out.size
          generalize N q = nq at hck HRK hlen
          generalize C q = cq at hck
          generalize A q = aq at hck HRK
          clear hrk
          go_wp2_with (at_builtin; go_loud (refine append_sls _ rfl (.tmp 31) (.tmp 32) rfl w.heap.size Try.underlying24 infoSl v (catT T q) rfl HO.out aq nq cq (T q) rfl HRK.out hlen hbs ?_); intro v2 w2 o2 b2)
          rw [← HE.out] at o2
          have HO2 := Lib.hid o2; have HB2 := Lib.hid (HB.out.trans b2)
          clear o2 b2
          go_roundw
          case rel => exact ⟨q + 1, v2, by omega, rfl, by go_num, HO2, HB2⟩
          case measure => simp [intOf]; omega
        · have hqn : q = k := by omega
          subst hqn
          go_wp2
          go_ret
          exact ⟨v, rfl, HO.out, HB.out⟩
theorem RdE.rest {w : World} {ao : Option Addr} {n : Nat} {t : List Sl} (h : RdE w ao n t) {c : Nat} (hc : c ≤ n) : RdE w (Option.map (fun x => x.add (c * 8)) ao) (n - c) (t.drop c) :=
  ⟨by rw [List.length_drop, h.len], fun hn => by
    obtain ⟨b, off, rfl, hx⟩ := h.here (by omega)
    refine ⟨b, off + c * 8, by simp [Addr.add_lit], fun i hi => ?_⟩
    have := hx (c + i) (by omega)
    rw [show off + c * 8 + i * 8 = off + (c + i) * 8 from by omega]
    rw [show slOf (t.drop c) i = slOf t (c + i) from by simp [slOf, List.getD, List.getElem?_drop]]
    exact this⟩
theorem RdE.empty {w : World} {ao : Option Addr} : RdE w ao 0 [] := ⟨rfl, fun h => absurd h (by omega)⟩
theorem insert_yes {t : List Sl} {x : Sl} (h : codeIns t x = 0) : isSls t = true ∧ t.length < 120 ∧ (∀ y ∈ t, cmpSl y x ≠ 0) ∧ insertSlot t x = (before t x ++ x :: behind t x, 0) := by
  have hc := (insert_code (t := t) (x := x)).1
  rw [h] at hc
  have h2 : insertSlot t x = ((insertSlot t x).1, 0) := by rw [← hc]
  obtain ⟨g1, -, g3, -, -, -⟩ := insert_law h2
  have h4 : t.any (sameSl x.mode x.round x.slot) = false := by
    unfold codeIns at h
    rw [if_neg (by rw [g1]; simp)] at h
    split at h
    · cases h
    · split at h
      · cases h
      · rename_i h5
        rw [sent_any g1] at h5
        simpa using h5
  have h6 : t.length ≠ 120 := by
    intro hl
    unfold codeIns at h
    rw [if_neg (by rw [g1]; simp)] at h
    split at h
    · cases h
    · split at h
      · cases h
      · omega
  have := (isSls_iff.1 g1).1
  refine ⟨g1, by omega, fun y hy e => ?_, by rw [h2, g3]⟩
  have := List.any_eq_false.1 h4 y hy
  rw [cmp_same.1 e] at this
  exact this rfl
set_option maxRecDepth 100000 in
set_option maxHeartbeats 4000000 in
set_option linter.unusedSimpArgs false in
theorem insertSlotI_any (ao : Option Addr) (n cap : Nat) (t : List Sl) (x : Sl) (w : World) (hr : RdE w ao n t) (hn : n ≤ 1048576) (hcap : n ≤ cap) (hcap2 : cap ≤ 9223372036854775807) :
    Calls Try.prog 29 #[.slice ao n cap, slVal x] w (MakesE2 38 w (insertSlot t x).1 (insertSlot t x).2) := by
  have b0 := (Below.refl w.heap.size w).alloc (Nat.le_refl _) (.cells #[.int .i64 x.mode, .int .i64 x.round, .int .i64 x.slot, .int .i64 x.desc.node, .int .i64 x.desc.kind, .int .i64 x.desc.size, .int .i64 x.desc.dur, .bool x.desc.chg] 38)
  have HX := Lib.hid (SlBk.new (T := 38) (x := x) w)
  have HB := Lib.hid b0
  have HR := Lib.hid (hr.below b0)
  have HL := Lib.hid hr.len
  have HCD := Lib.hid (codeIns_any ao n cap t x _ (hr.below b0) hn)
  clear hr b0
  unfold slVal at HCD ⊢
  have hq := insert_code (t := t) (x := x)
  by_cases hz : codeIns t x = 0
  rotate_left
  · rw [hq.1, hq.2 hz]
    obtain ⟨c, hc⟩ : ∃ c, c = codeIns t x := ⟨_, rfl⟩
    rw [← hc] at hz HCD ⊢
    have hne : (c != 0) = true := by simp [hz]
    have HX0 := HX.out.all8
    obtain ⟨q0, q1, q2, q3, q4, q5, q6, q7⟩ := HX0
    clear hc hq
    go_enter Try.func29, Try.ntmps29
    go_wp2_with fail
    refine HCD.out.mono ?_
    rintro e w1 ⟨rfl, b1⟩
    clear q0 q1 q2 q3 q4 q5 q6 q7
    go_wp2_with fail
    go_ret2
    exact ⟨_, rfl, OwnE.nil_, below_two HB.out b1⟩
  obtain ⟨hs, h120, hnz, hins⟩ := insert_yes hz
  rw [hins]
  have HNZ := Lib.hid hnz
  have hn120 : n < 120 := by rw [HL.out] at h120; exact h120
  have HS := Lib.hid hs
  rw [hz] at HCD
  clear hq hins hnz hz hs h120
  obtain ⟨q0, q1, q2, q3, q4, q5, q6, q7⟩ := HX.out.all8
  go_enter Try.func29, Try.ntmps29
  go_wp2_with fail
  refine HCD.out.mono ?_
  rintro e w1 ⟨rfl, b1⟩
  clear q0 q1 q2 q3 q4 q5 q6 q7
  have HX1 := Lib.hid (HX.out.below b1 HX.out.lt)
  have HB1 := Lib.hid (below_two HB.out b1)
  have HR1 := Lib.hid (HR.out.below b1)
  clear b1 HCD HX HB HR
  obtain ⟨q0, q1, q2, q3, q4, q5, q6, q7⟩ := HX1.out.all8
  have HSE := search_any ao n cap t x w1 HR1.out hn HS.out
  unfold slVal at HSE
  have HSF := Lib.hid HSE
  clear HSE
  go_wp2_with fail
  refine HSF.out.mono ?_
  rintro e w2 ⟨c, f, rfl, hcn, h1, h2, b2⟩
  clear q0 q1 q2 q3 q4 q5 q6 q7
  obtain ⟨e1, e2⟩ := before_count (x := x) (c := c) (by rw [HL.out]; exact hcn) h1 (by rw [HL.out]; exact h2)
  have HE := Lib.hid (show before t x ++ x :: behind t x = t.take c ++ ([x] ++ t.drop c) from by rw [e1, e2 HNZ.out]; rfl)
  have HX2 := Lib.hid (HX1.out.below b2 HX1.out.lt)
  have HB2 := Lib.hid (below_two HB1.out b2)
  have HR2 := Lib.hid (HR1.out.below b2)
  clear b2 h1 h2 e1 e2 HX1 HB1 HR1 HSF
  have hci0 : (0 : Int) ≤ (c : Int) := by omega
  have hci1 : (c : Int) ≤ (cap : Int) := by omega
  have hci2 : (c : Int) ≤ (n : Int) := by omega
  have hcc : c ≤ cap := by omega
  by_cases hce : cap = c
  · have hnc : n = c := by omega
    subst hnc
    have HR3 := Lib.hid (fun W (hW : Below w2.heap.size w2 W) => (show RdE W ao 0 (t.drop n) from by rw [List.drop_of_length_le (by rw [HL.out]; exact Nat.le_refl _)]; exact RdE.empty))
    have HTK := Lib.hid (fun W (hW : Below w2.heap.size w2 W) => (HR2.out.below hW).take (Nat.le_refl n))
    go_upto_region 5 with fail
    have HXW := Lib.hid (fun W (hW : Below w2.heap.size w2 W) => (HX2.out.below hW HX2.out.lt).all8)
    have HD := Lib.hid (show Below w2.heap.size w2 w2.drew from Below.drew (Below.refl _ _))
    refine wp_region_held_drew (S := fun w' => w'.cell? ⟨w.heap.size, 0, none⟩ = some (Value.int .i64 x.mode) ∧ w'.cell? ⟨w.heap.size, 1, none⟩ = some (Value.int .i64 x.round) ∧ w'.cell? ⟨w.heap.size, 2, none⟩ = some (Value.int .i64 x.slot) ∧ w'.cell? ⟨w.heap.size, 3, none⟩ = some (Value.int .i64 x.desc.node) ∧ w'.cell? ⟨w.heap.size, 4, none⟩ = some (Value.int .i64 x.desc.kind) ∧ w'.cell? ⟨w.heap.size, 5, none⟩ = some (Value.int .i64 x.desc.size) ∧ w'.cell? ⟨w.heap.size, 6, none⟩ = some (Value.int .i64 x.desc.dur) ∧ w'.cell? ⟨w.heap.size, 7, none⟩ = some (Value.bool x.desc.chg)) (by kernel_rfl) (HXW.out _ HD.out) (fun hHeld => ?_)
    generalize w2.drew = w3 at HD hHeld ⊢
    refine wpAnyH_take (i := 0) (v := ?_) rfl (by kernel_rfl) (by kernel_rfl) (by kernel_rfl) (fun _ _ _ h => h) (Or.inl ⟨by rfl, ?_⟩) (by assumption) ?_
    rotate_left
    · (intro w hSw; (try dsimp only at hSw); go_simp; (try with_reducible rfl))
    try simp only [List.getElem_toArray, List.getElem_cons_succ, List.getElem_cons_zero, Act.put, List.setIfInBounds_toArray, List.set_cons_zero, List.set_cons_succ]
    refine wpAnyH_take (i := 1) (v := ?_) rfl (by kernel_rfl) (by kernel_rfl) (by kernel_rfl) (fun _ _ _ h => h) (Or.inl ⟨by rfl, ?_⟩) (by assumption) ?_
    rotate_left
    · (intro w hSw; (try dsimp only at hSw); go_simp; (try with_reducible rfl))
    try simp only [List.getElem_toArray, List.getElem_cons_succ, List.getElem_cons_zero, Act.put, List.setIfInBounds_toArray, List.set_cons_zero, List.set_cons_succ]
    refine wpAnyH_take (i := 2) (v := ?_) rfl (by kernel_rfl) (by kernel_rfl) (by kernel_rfl) (fun _ _ _ h => h) (Or.inl ⟨by rfl, ?_⟩) (by assumption) ?_
    rotate_left
    · (intro w hSw; (try dsimp only at hSw); go_simp; (try with_reducible rfl))
    try simp only [List.getElem_toArray, List.getElem_cons_succ, List.getElem_cons_zero, Act.put, List.setIfInBounds_toArray, List.set_cons_zero, List.set_cons_succ]
    refine wpAnyH_take (i := 3) (v := ?_) rfl (by kernel_rfl) (by kernel_rfl) (by kernel_rfl) (fun _ _ _ h => h) (Or.inl ⟨by rfl, ?_⟩) (by assumption) ?_
    rotate_left
    · (intro w hSw; (try dsimp only at hSw); go_simp; (try with_reducible rfl))
    try simp only [List.getElem_toArray, List.getElem_cons_succ, List.getElem_cons_zero, Act.put, List.setIfInBounds_toArray, List.set_cons_zero, List.set_cons_succ]
    refine wpAnyH_take (i := 5) (v := ?_) rfl (by kernel_rfl) (by kernel_rfl) (by kernel_rfl) (fun _ _ _ h => h) (Or.inl ⟨by rfl, ?_⟩) (by assumption) ?_
    rotate_left
    · (intro w hSw; (try dsimp only at hSw); go_simp; (try with_reducible rfl))
    try simp only [List.getElem_toArray, List.getElem_cons_succ, List.getElem_cons_zero, Act.put, List.setIfInBounds_toArray, List.set_cons_zero, List.set_cons_succ]
    refine wpAnyH_take (i := 6) (v := ?_) rfl (by kernel_rfl) (by kernel_rfl) (by kernel_rfl) (fun _ _ _ h => h) (Or.inl ⟨by rfl, ?_⟩) (by assumption) ?_
    rotate_left
    · (intro w hSw; (try dsimp only at hSw); go_simp; (try with_reducible rfl))
    try simp only [List.getElem_toArray, List.getElem_cons_succ, List.getElem_cons_zero, Act.put, List.setIfInBounds_toArray, List.set_cons_zero, List.set_cons_succ]
    refine wpAnyH_take (i := 7) (v := ?_) rfl (by kernel_rfl) (by kernel_rfl) (by kernel_rfl) (fun _ _ _ h => h) (Or.inl ⟨by rfl, ?_⟩) (by assumption) ?_
    rotate_left
    · (intro w hSw; (try dsimp only at hSw); go_simp; (try with_reducible rfl))
    try simp only [List.getElem_toArray, List.getElem_cons_succ, List.getElem_cons_zero, Act.put, List.setIfInBounds_toArray, List.set_cons_zero, List.set_cons_succ]
    refine wpAnyH_ready (rs := [4]) (by kernel_rfl) (by simp) (AllReadyH.cons rfl (fun K hK => ?_) AllReadyH.nil)
    go_simp
    have HD4 := Lib.hid (HD.out.alloc HD.out.size (.cells #[.int .i64 x.mode, .int .i64 x.round, .int .i64 x.slot, .int .i64 x.desc.node, .int .i64 x.desc.kind, .int .i64 x.desc.size, .int .i64 x.desc.dur, .bool x.desc.chg] 38))
    have HXN := Lib.hid (SlBk.new (T := 38) (x := x) w3)
    refine hK.out _ _ ?_ (fun hHeld => ?_)
    · exact HXW.out _ HD4.out
    clear hK K
    try simp only [List.getElem_toArray, List.getElem_cons_succ, List.getElem_cons_zero, Act.put, List.setIfInBounds_toArray, List.set_cons_zero, List.set_cons_succ]
    have hs4 : w3.heap.size < (w3.alloc (.cells #[.int .i64 x.mode, .int .i64 x.round, .int .i64 x.slot, .int .i64 x.desc.node, .int .i64 x.desc.kind, .int .i64 x.desc.size, .int .i64 x.desc.dur, .bool x.desc.chg] 38)).heap.size := by simp
    generalize w3.alloc (.cells #[.int .i64 x.mode, .int .i64 x.round, .int .i64 x.slot, .int .i64 x.desc.node, .int .i64 x.desc.kind, .int .i64 x.desc.size, .int .i64 x.desc.dur, .bool x.desc.chg] 38) = w4 at HD4 HXN hs4 hHeld ⊢
    refine wpAnyH_ready (rs := [8]) (by kernel_rfl) (by simp) (AllReadyH.cons rfl (fun K hK => ?_) AllReadyH.nil)
    go_simp
    have HD5 := Lib.hid (HD4.out.alloc HD4.out.size (.cells #[.slice ao n n, .slice (some ⟨w3.heap.size, 0, none⟩) 1 1, .slice ao 0 0] 24))
    have HXN5 := Lib.hid (HXN.out.below ((Below.refl w4.heap.size w4).alloc (Nat.le_refl _) (.cells #[.slice ao n n, .slice (some ⟨w3.heap.size, 0, none⟩) 1 1, .slice ao 0 0] 24)) HXN.out.lt)
    have HG0 := Lib.hid (heap_alloc_new w4 (.cells #[.slice ao n n, .slice (some ⟨w3.heap.size, 0, none⟩) 1 1, .slice ao 0 0] 24 (0, 0)))
    have hs5 : w4.heap.size < (w4.alloc (.cells #[.slice ao n n, .slice (some ⟨w3.heap.size, 0, none⟩) 1 1, .slice ao 0 0] 24)).heap.size := by simp
    refine hK.out _ _ ?_ (fun hHeld => ?_)
    · exact HXW.out _ HD5.out
    clear hK K
    try simp only [List.getElem_toArray, List.getElem_cons_succ, List.getElem_cons_zero, Act.put, List.setIfInBounds_toArray, List.set_cons_zero, List.set_cons_succ]
    generalize w4.alloc (.cells #[.slice ao n n, .slice (some ⟨w3.heap.size, 0, none⟩) 1 1, .slice ao 0 0] 24) = w5 at HD5 HXN5 HG0 hs5 hHeld ⊢
    obtain ⟨A, hA⟩ : ∃ A : Nat → Option Addr, A = fun i => match i with | 0 => ao | 1 => some ⟨w3.heap.size, 0, none⟩ | _ => ao := ⟨_, rfl⟩
    obtain ⟨N, hN⟩ : ∃ N : Nat → Nat, N = fun i => match i with | 0 => n | 1 => 1 | 2 => 0 | _ => 0 := ⟨_, rfl⟩
    obtain ⟨C, hC⟩ : ∃ C : Nat → Nat, C = fun i => match i with | 0 => n | 1 => 1 | _ => 0 := ⟨_, rfl⟩
    obtain ⟨T, hT⟩ : ∃ T : Nat → List Sl, T = fun i => match i with | 0 => t.take n | 1 => [x] | _ => t.drop n := ⟨_, rfl⟩
    have HCC := concatSl_any w4.heap.size 3 3 A N C T w5 (by omega) (fun i hi => (by
      rw [hA, hN, hC]
      match i, hi with
      | 0, _ => exact cell_of_row w5 _ 0 _ _ _ HG0.out
      | 1, _ => exact cell_of_row w5 _ 1 _ _ _ HG0.out
      | 2, _ => exact cell_of_row w5 _ 2 _ _ _ HG0.out)) (fun i hi => (by
      rw [hA, hN, hT]
      match i, hi with
      | 0, _ => exact HTK.out _ HD5.out
      | 1, _ => exact ⟨rfl, fun _ => ⟨w3.heap.size, 0, rfl, fun j hj => by have hj1 : j < 1 := hj; rw [show j = 0 from by omega]; exact HXN5.out.in_⟩⟩
      | 2, _ => exact HR3.out _ HD5.out)) (fun i => by rw [hN]; match i with | 0 => simp only; omega | 1 => simp only; omega | 2 => simp only; omega | _ + 3 => simp only; omega) (by rw [hN]; simp only [sumN]; omega) hs5
    have hcat : catT T 3 = t.take n ++ ([x] ++ t.drop n) := by rw [hT]; simp [catT]
    rw [hcat] at HCC
    have HCN := Lib.hid HCC
    clear HCC hcat hA hN hC hT
    refine wpAnyH_ready (rs := [9]) (by kernel_rfl) (by simp) (AllReadyH.cons rfl (fun K hK => ?_) AllReadyH.nil)
    go_simp
    refine HCN.out.mono ?_
    rintro e w6 ⟨v, rfl, o6, b6⟩
    have HO6 := Lib.hid o6
    have HD6 := Lib.hid (below_two HD5.out b6)
    clear o6 b6
    go_wp2_with fail
    refine hK.out _ _ ?_ (fun hHeld => ?_)
    · exact HXW.out _ HD6.out
    clear hK K
    try simp only [List.getElem_toArray, List.getElem_cons_succ, List.getElem_cons_zero, Act.put, List.setIfInBounds_toArray, List.set_cons_zero, List.set_cons_succ]
    refine wpAnyH_take (i := 10) (v := ?_) rfl (by kernel_rfl) (by kernel_rfl) (by kernel_rfl) (fun _ _ _ h => h) (Or.inl ⟨by rfl, ?_⟩) (by assumption) ?_
    rotate_left
    · (intro w hSw; (try dsimp only at hSw); go_simp; (try with_reducible rfl))
    try simp only [List.getElem_toArray, List.getElem_cons_succ, List.getElem_cons_zero, Act.put, List.setIfInBounds_toArray, List.set_cons_zero, List.set_cons_succ]
    refine wpAnyH_take (i := 11) (v := ?_) rfl (by kernel_rfl) (by kernel_rfl) (by kernel_rfl) (fun _ _ _ h => h) (Or.inl ⟨by rfl, ?_⟩) (by assumption) ?_
    rotate_left
    · (intro w hSw; (try dsimp only at hSw); go_simp; (try with_reducible rfl))
    try simp only [List.getElem_toArray, List.getElem_cons_succ, List.getElem_cons_zero, Act.put, List.setIfInBounds_toArray, List.set_cons_zero, List.set_cons_succ]
    refine wpAnyH_done (by kernel_rfl) ?_ _
    go_wp2_with fail
    go_ret2
    rw [HE.out]
    exact ⟨v, rfl, HO6.out.more (base' := w.heap.size) (by have h1 := HB2.out.size; have h2 := HD5.out.size; omega), below_two HB2.out HD6.out⟩
  · have HR3 := Lib.hid (fun W (hW : Below w2.heap.size w2 W) => (HR2.out.below hW).rest hcn)
    have hcl : c < cap := by omega
    have HTK := Lib.hid (fun W (hW : Below w2.heap.size w2 W) => (HR2.out.below hW).take hcn)
    go_upto_region 5 with fail
    have HXW := Lib.hid (fun W (hW : Below w2.heap.size w2 W) => (HX2.out.below hW HX2.out.lt).all8)
    have HD := Lib.hid (show Below w2.heap.size w2 w2.drew from Below.drew (Below.refl _ _))
    refine wp_region_held_drew (S := fun w' => w'.cell? ⟨w.heap.size, 0, none⟩ = some (Value.int .i64 x.mode) ∧ w'.cell? ⟨w.heap.size, 1, none⟩ = some (Value.int .i64 x.round) ∧ w'.cell? ⟨w.heap.size, 2, none⟩ = some (Value.int .i64 x.slot) ∧ w'.cell? ⟨w.heap.size, 3, none⟩ = some (Value.int .i64 x.desc.node) ∧ w'.cell? ⟨w.heap.size, 4, none⟩ = some (Value.int .i64 x.desc.kind) ∧ w'.cell? ⟨w.heap.size, 5, none⟩ = some (Value.int .i64 x.desc.size) ∧ w'.cell? ⟨w.heap.size, 6, none⟩ = some (Value.int .i64 x.desc.dur) ∧ w'.cell? ⟨w.heap.size, 7, none⟩ = some (Value.bool x.desc.chg)) (by kernel_rfl) (HXW.out _ HD.out) (fun hHeld => ?_)
    generalize w2.drew = w3 at HD hHeld ⊢
    refine wpAnyH_take (i := 0) (v := ?_) rfl (by kernel_rfl) (by kernel_rfl) (by kernel_rfl) (fun _ _ _ h => h) (Or.inl ⟨by rfl, ?_⟩) (by assumption) ?_
    rotate_left
    · (intro w hSw; (try dsimp only at hSw); go_simp; (try with_reducible rfl))
    try simp only [List.getElem_toArray, List.getElem_cons_succ, List.getElem_cons_zero, Act.put, List.setIfInBounds_toArray, List.set_cons_zero, List.set_cons_succ]
    refine wpAnyH_take (i := 1) (v := ?_) rfl (by kernel_rfl) (by kernel_rfl) (by kernel_rfl) (fun _ _ _ h => h) (Or.inl ⟨by rfl, ?_⟩) (by assumption) ?_
    rotate_left
    · (intro w hSw; (try dsimp only at hSw); go_simp; (try with_reducible rfl))
    try simp only [List.getElem_toArray, List.getElem_cons_succ, List.getElem_cons_zero, Act.put, List.setIfInBounds_toArray, List.set_cons_zero, List.set_cons_succ]
    refine wpAnyH_take (i := 2) (v := ?_) rfl (by kernel_rfl) (by kernel_rfl) (by kernel_rfl) (fun _ _ _ h => h) (Or.inl ⟨by rfl, ?_⟩) (by assumption) ?_
    rotate_left
    · (intro w hSw; (try dsimp only at hSw); go_simp; (try with_reducible rfl))
    try simp only [List.getElem_toArray, List.getElem_cons_succ, List.getElem_cons_zero, Act.put, List.setIfInBounds_toArray, List.set_cons_zero, List.set_cons_succ]
    refine wpAnyH_take (i := 3) (v := ?_) rfl (by kernel_rfl) (by kernel_rfl) (by kernel_rfl) (fun _ _ _ h => h) (Or.inl ⟨by rfl, ?_⟩) (by assumption) ?_
    rotate_left
    · (intro w hSw; (try dsimp only at hSw); go_simp; (try with_reducible rfl))
    try simp only [List.getElem_toArray, List.getElem_cons_succ, List.getElem_cons_zero, Act.put, List.setIfInBounds_toArray, List.set_cons_zero, List.set_cons_succ]
    refine wpAnyH_take (i := 5) (v := ?_) rfl (by kernel_rfl) (by kernel_rfl) (by kernel_rfl) (fun _ _ _ h => h) (Or.inl ⟨by rfl, ?_⟩) (by assumption) ?_
    rotate_left
    · (intro w hSw; (try dsimp only at hSw); go_simp; (try with_reducible rfl))
    try simp only [List.getElem_toArray, List.getElem_cons_succ, List.getElem_cons_zero, Act.put, List.setIfInBounds_toArray, List.set_cons_zero, List.set_cons_succ]
    refine wpAnyH_take (i := 6) (v := ?_) rfl (by kernel_rfl) (by kernel_rfl) (by kernel_rfl) (fun _ _ _ h => h) (Or.inl ⟨by rfl, ?_⟩) (by assumption) ?_
    rotate_left
    · (intro w hSw; (try dsimp only at hSw); go_simp; (try with_reducible rfl))
    try simp only [List.getElem_toArray, List.getElem_cons_succ, List.getElem_cons_zero, Act.put, List.setIfInBounds_toArray, List.set_cons_zero, List.set_cons_succ]
    refine wpAnyH_take (i := 7) (v := ?_) rfl (by kernel_rfl) (by kernel_rfl) (by kernel_rfl) (fun _ _ _ h => h) (Or.inl ⟨by rfl, ?_⟩) (by assumption) ?_
    rotate_left
    · (intro w hSw; (try dsimp only at hSw); go_simp; (try with_reducible rfl))
    try simp only [List.getElem_toArray, List.getElem_cons_succ, List.getElem_cons_zero, Act.put, List.setIfInBounds_toArray, List.set_cons_zero, List.set_cons_succ]
    refine wpAnyH_ready (rs := [4]) (by kernel_rfl) (by simp) (AllReadyH.cons rfl (fun K hK => ?_) AllReadyH.nil)
    go_simp
    have HD4 := Lib.hid (HD.out.alloc HD.out.size (.cells #[.int .i64 x.mode, .int .i64 x.round, .int .i64 x.slot, .int .i64 x.desc.node, .int .i64 x.desc.kind, .int .i64 x.desc.size, .int .i64 x.desc.dur, .bool x.desc.chg] 38))
    have HXN := Lib.hid (SlBk.new (T := 38) (x := x) w3)
    refine hK.out _ _ ?_ (fun hHeld => ?_)
    · exact HXW.out _ HD4.out
    clear hK K
    try simp only [List.getElem_toArray, List.getElem_cons_succ, List.getElem_cons_zero, Act.put, List.setIfInBounds_toArray, List.set_cons_zero, List.set_cons_succ]
    have hs4 : w3.heap.size < (w3.alloc (.cells #[.int .i64 x.mode, .int .i64 x.round, .int .i64 x.slot, .int .i64 x.desc.node, .int .i64 x.desc.kind, .int .i64 x.desc.size, .int .i64 x.desc.dur, .bool x.desc.chg] 38)).heap.size := by simp
    generalize w3.alloc (.cells #[.int .i64 x.mode, .int .i64 x.round, .int .i64 x.slot, .int .i64 x.desc.node, .int .i64 x.desc.kind, .int .i64 x.desc.size, .int .i64 x.desc.dur, .bool x.desc.chg] 38) = w4 at HD4 HXN hs4 hHeld ⊢
    refine wpAnyH_ready (rs := [8]) (by kernel_rfl) (by simp) (AllReadyH.cons rfl (fun K hK => ?_) AllReadyH.nil)
    go_simp
    have HD5 := Lib.hid (HD4.out.alloc HD4.out.size (.cells #[.slice ao c cap, .slice (some ⟨w3.heap.size, 0, none⟩) 1 1, .slice (Option.map (fun x => x.add (c * 8)) ao) (n - c) (cap - c)] 24))
    have HXN5 := Lib.hid (HXN.out.below ((Below.refl w4.heap.size w4).alloc (Nat.le_refl _) (.cells #[.slice ao c cap, .slice (some ⟨w3.heap.size, 0, none⟩) 1 1, .slice (Option.map (fun x => x.add (c * 8)) ao) (n - c) (cap - c)] 24)) HXN.out.lt)
    have HG0 := Lib.hid (heap_alloc_new w4 (.cells #[.slice ao c cap, .slice (some ⟨w3.heap.size, 0, none⟩) 1 1, .slice (Option.map (fun x => x.add (c * 8)) ao) (n - c) (cap - c)] 24 (0, 0)))
    have hs5 : w4.heap.size < (w4.alloc (.cells #[.slice ao c cap, .slice (some ⟨w3.heap.size, 0, none⟩) 1 1, .slice (Option.map (fun x => x.add (c * 8)) ao) (n - c) (cap - c)] 24)).heap.size := by simp
    refine hK.out _ _ ?_ (fun hHeld => ?_)
    · exact HXW.out _ HD5.out
    clear hK K
    try simp only [List.getElem_toArray, List.getElem_cons_succ, List.getElem_cons_zero, Act.put, List.setIfInBounds_toArray, List.set_cons_zero, List.set_cons_succ]
    generalize w4.alloc (.cells #[.slice ao c cap, .slice (some ⟨w3.heap.size, 0, none⟩) 1 1, .slice (Option.map (fun x => x.add (c * 8)) ao) (n - c) (cap - c)] 24) = w5 at HD5 HXN5 HG0 hs5 hHeld ⊢
    obtain ⟨A, hA⟩ : ∃ A : Nat → Option Addr, A = fun i => match i with | 0 => ao | 1 => some ⟨w3.heap.size, 0, none⟩ | _ => (Option.map (fun x => x.add (c * 8)) ao) := ⟨_, rfl⟩
    obtain ⟨N, hN⟩ : ∃ N : Nat → Nat, N = fun i => match i with | 0 => c | 1 => 1 | 2 => (n - c) | _ => 0 := ⟨_, rfl⟩
    obtain ⟨C, hC⟩ : ∃ C : Nat → Nat, C = fun i => match i with | 0 => cap | 1 => 1 | _ => (cap - c) := ⟨_, rfl⟩
    obtain ⟨T, hT⟩ : ∃ T : Nat → List Sl, T = fun i => match i with | 0 => t.take c | 1 => [x] | _ => t.drop c := ⟨_, rfl⟩
    have HCC := concatSl_any w4.heap.size 3 3 A N C T w5 (by omega) (fun i hi => (by
      rw [hA, hN, hC]
      match i, hi with
      | 0, _ => exact cell_of_row w5 _ 0 _ _ _ HG0.out
      | 1, _ => exact cell_of_row w5 _ 1 _ _ _ HG0.out
      | 2, _ => exact cell_of_row w5 _ 2 _ _ _ HG0.out)) (fun i hi => (by
      rw [hA, hN, hT]
      match i, hi with
      | 0, _ => exact HTK.out _ HD5.out
      | 1, _ => exact ⟨rfl, fun _ => ⟨w3.heap.size, 0, rfl, fun j hj => by have hj1 : j < 1 := hj; rw [show j = 0 from by omega]; exact HXN5.out.in_⟩⟩
      | 2, _ => exact HR3.out _ HD5.out)) (fun i => by rw [hN]; match i with | 0 => simp only; omega | 1 => simp only; omega | 2 => simp only; omega | _ + 3 => simp only; omega) (by rw [hN]; simp only [sumN]; omega) hs5
    have hcat : catT T 3 = t.take c ++ ([x] ++ t.drop c) := by rw [hT]; simp [catT]
    rw [hcat] at HCC
    have HCN := Lib.hid HCC
    clear HCC hcat hA hN hC hT
    refine wpAnyH_ready (rs := [9]) (by kernel_rfl) (by simp) (AllReadyH.cons rfl (fun K hK => ?_) AllReadyH.nil)
    go_simp
    refine HCN.out.mono ?_
    rintro e w6 ⟨v, rfl, o6, b6⟩
    have HO6 := Lib.hid o6
    have HD6 := Lib.hid (below_two HD5.out b6)
    clear o6 b6
    go_wp2_with fail
    refine hK.out _ _ ?_ (fun hHeld => ?_)
    · exact HXW.out _ HD6.out
    clear hK K
    try simp only [List.getElem_toArray, List.getElem_cons_succ, List.getElem_cons_zero, Act.put, List.setIfInBounds_toArray, List.set_cons_zero, List.set_cons_succ]
    refine wpAnyH_take (i := 10) (v := ?_) rfl (by kernel_rfl) (by kernel_rfl) (by kernel_rfl) (fun _ _ _ h => h) (Or.inl ⟨by rfl, ?_⟩) (by assumption) ?_
    rotate_left
    · (intro w hSw; (try dsimp only at hSw); go_simp; (try with_reducible rfl))
    try simp only [List.getElem_toArray, List.getElem_cons_succ, List.getElem_cons_zero, Act.put, List.setIfInBounds_toArray, List.set_cons_zero, List.set_cons_succ]
    refine wpAnyH_take (i := 11) (v := ?_) rfl (by kernel_rfl) (by kernel_rfl) (by kernel_rfl) (fun _ _ _ h => h) (Or.inl ⟨by rfl, ?_⟩) (by assumption) ?_
    rotate_left
    · (intro w hSw; (try dsimp only at hSw); go_simp; (try with_reducible rfl))
    try simp only [List.getElem_toArray, List.getElem_cons_succ, List.getElem_cons_zero, Act.put, List.setIfInBounds_toArray, List.set_cons_zero, List.set_cons_succ]
    refine wpAnyH_done (by kernel_rfl) ?_ _
    go_wp2_with fail
    go_ret2
    rw [HE.out]
    exact ⟨v, rfl, HO6.out.more (base' := w.heap.size) (by have h1 := HB2.out.size; have h2 := HD5.out.size; omega), below_two HB2.out HD6.out⟩
end

section
open Go.RowKit

theorem RdE.below3 {w w' : World} {ao : Option Addr} {n B : Nat} {t : List Sl} (h : RdE w ao n t) (hb : Below B w w') (hlt : ∀ b off, ao = some ⟨b, off, none⟩ → 0 < n → b < B) : RdE w' ao n t :=
  ⟨h.len, fun hn => by
    obtain ⟨b, off, e, hc⟩ := h.here hn
    exact ⟨b, off, e, fun i hi => (hc i hi).below hb (hlt b off e hn)⟩⟩
def befTo (t : List Sl) (x : Sl) (k : Nat) : List Sl := (t.take k).filter fun y => decide (cmpSl y x < 0)
def behTo (t : List Sl) (x : Sl) (k : Nat) : List Sl := (t.take k).filter fun y => decide (0 < cmpSl y x)
theorem befTo_succ {t : List Sl} {x : Sl} {k : Nat} (h : k < t.length) : befTo t x (k + 1) = if cmpSl (slOf t k) x < 0 then befTo t x k ++ [slOf t k] else befTo t x k := by
  unfold befTo
  rw [slOf_get h, List.take_succ_eq_append_getElem h, List.filter_append]
  by_cases hc : cmpSl t[k] x < 0 <;> simp [hc]
theorem behTo_succ {t : List Sl} {x : Sl} {k : Nat} (h : k < t.length) : behTo t x (k + 1) = if 0 < cmpSl (slOf t k) x then behTo t x k ++ [slOf t k] else behTo t x k := by
  unfold behTo
  rw [slOf_get h, List.take_succ_eq_append_getElem h, List.filter_append]
  by_cases hc : 0 < cmpSl t[k] x <;> simp [hc]
theorem befTo_all {t : List Sl} {x : Sl} {k : Nat} (h : t.length ≤ k) : befTo t x k = before t x := by unfold befTo before; rw [List.take_of_length_le h]
theorem behTo_all {t : List Sl} {x : Sl} {k : Nat} (h : t.length ≤ k) : behTo t x k = behind t x := by unfold behTo behind; rw [List.take_of_length_le h]
theorem befTo_le {t : List Sl} {x : Sl} {k : Nat} : (befTo t x k).length ≤ k := by
  unfold befTo
  have h1 := List.length_filter_le (fun y => decide (cmpSl y x < 0)) (t.take k)
  rw [List.length_take] at h1
  omega
theorem behTo_le {t : List Sl} {x : Sl} {k : Nat} : (behTo t x k).length ≤ k := by
  unfold behTo
  have h1 := List.length_filter_le (fun y => decide (0 < cmpSl y x)) (t.take k)
  rw [List.length_take] at h1
  omega
theorem place_any {t : List Sl} (m r s : Int) : t.any (sameSl m r s) = decide (0 ≤ placeS t m r s) := by
  rcases placeS_case t m r s with ⟨h1, h2⟩ | ⟨k, hk, h1, h2⟩
  · rw [h1]
    have : t.any (sameSl m r s) = false := List.any_eq_false.2 (List.find?_eq_none.1 h2)
    rw [this]; rfl
  · rw [h1]
    have : t.any (sameSl m r s) = true := List.any_eq_true.2 ⟨_, List.mem_of_find?_eq_some h2, List.find?_some h2⟩
    rw [this]; simp
theorem ins_no1 {t : List Sl} {x : Sl} (h : isSls t = false) : insertSlot t x = ([], 1) := by unfold insertSlot; rw [if_pos h]
theorem ins_no2 {t : List Sl} {x : Sl} (h : isSls t = true) (h2 : isSl x = false) : insertSlot t x = ([], 2) := by unfold insertSlot; rw [if_neg (by rw [h]; simp), if_pos h2]
theorem ins_no5 {t : List Sl} {x : Sl} (h : isSls t = true) (h2 : isSl x = true) (h3 : 0 ≤ placeS t x.mode x.round x.slot) : insertSlot t x = ([], 5) := by
  unfold insertSlot; rw [if_neg (by rw [h]; simp), if_neg (by rw [h2]; simp), place_any, if_pos (by simpa using h3)]
theorem ins_no3 {t : List Sl} {x : Sl} (h : isSls t = true) (h2 : isSl x = true) (h3 : ¬ 0 ≤ placeS t x.mode x.round x.slot) (h4 : t.length = 120) : insertSlot t x = ([], 3) := by
  unfold insertSlot; rw [if_neg (by rw [h]; simp), if_neg (by rw [h2]; simp), place_any, if_neg (by simpa using h3), if_pos h4]
theorem ins_yes {t : List Sl} {x : Sl} (h : isSls t = true) (h2 : isSl x = true) (h3 : ¬ 0 ≤ placeS t x.mode x.round x.slot) (h4 : ¬ t.length = 120) : insertSlot t x = (before t x ++ [x] ++ behind t x, 0) := by
  unfold insertSlot; rw [if_neg (by rw [h]; simp), if_neg (by rw [h2]; simp), place_any, if_neg (by simpa using h3), if_neg h4]; simp
set_option maxRecDepth 100000 in
set_option maxHeartbeats 8000000 in
set_option linter.unusedSimpArgs false in
theorem insertSlotS_any (ao : Option Addr) (n cap : Nat) (t : List Sl) (x : Sl) (w : World) (hr : RdE w ao n t) (hn : n ≤ 1048576) :
    Calls Try.prog 30 #[.slice ao n cap, slVal x] w (MakesE2 38 w (insertSlot t x).1 (insertSlot t x).2) := by
  have b0 := (Below.refl w.heap.size w).alloc (Nat.le_refl _) (.cells #[.int .i64 x.mode, .int .i64 x.round, .int .i64 x.slot, .int .i64 x.desc.node, .int .i64 x.desc.kind, .int .i64 x.desc.size, .int .i64 x.desc.dur, .bool x.desc.chg] 38)
  have HX := Lib.hid (SlBk.new (T := 38) (x := x) w)
  have HBL := Lib.hid (fun b off (e : ao = some ⟨b, off, none⟩) (h0 : 0 < n) => (by obtain ⟨b', off', e', hb, -⟩ := hr.at h0; cases e.symm.trans e'; exact hb : b < w.heap.size))
  have HB := Lib.hid b0
  have HR := Lib.hid (hr.below b0)
  have HR0 := Lib.hid hr
  have HL := Lib.hid hr.len
  have HIS := Lib.hid (isSlsS_any ao n cap t _ (hr.below b0) hn)
  have HI := Lib.hid (fun W => isSlS_any x W)
  have HC := Lib.hid (fun y W => cmpSlS_any y x W)
  clear hr b0
  unfold slVal at HI HC ⊢
  rcases hi : isSls t with _ | _
  · rw [ins_no1 hi]
    go_enter Try.func30, Try.ntmps30
    go_wp2_with fail
    refine HIS.out.mono ?_
    rintro e w1 ⟨rfl, b1⟩
    rw [hi]
    go_wp2_with fail
    go_ret2
    exact ⟨_, rfl, OwnE.nil_, below_two HB.out b1⟩
  rcases hx : isSl x with _ | _
  · rw [ins_no2 hi hx]
    go_enter Try.func30, Try.ntmps30
    go_wp2_with fail
    refine HIS.out.mono ?_
    rintro e w1 ⟨rfl, b1⟩
    rw [hi]
    obtain ⟨q0, q1, q2, q3, q4, q5, q6, q7⟩ := (HX.out.below b1 HX.out.lt).all8
    go_wp2_with fail
    refine (HI.out _).mono ?_
    rintro e w2 ⟨rfl, b2⟩
    rw [hx]
    go_wp2_with fail
    go_ret2
    exact ⟨_, rfl, OwnE.nil_, below_two (below_two HB.out b1) b2⟩
  obtain ⟨pl, hpl⟩ : ∃ v, v = placeS t x.mode x.round x.slot := ⟨_, rfl⟩
  have HFI := Lib.hid (fun W (hW : Below (w.alloc (.cells #[.int .i64 x.mode, .int .i64 x.round, .int .i64 x.slot, .int .i64 x.desc.node, .int .i64 x.desc.kind, .int .i64 x.desc.size, .int .i64 x.desc.dur, .bool x.desc.chg] 38)).heap.size (w.alloc (.cells #[.int .i64 x.mode, .int .i64 x.round, .int .i64 x.slot, .int .i64 x.desc.node, .int .i64 x.desc.kind, .int .i64 x.desc.size, .int .i64 x.desc.dur, .bool x.desc.chg] 38)) W) => (by have h := l12Find_any ao n cap t x.mode x.round x.slot W (HR.out.below hW) hn; rw [← hpl] at h; exact h : Calls Try.prog 93 #[.slice ao n cap, .int .i64 x.mode, .int .i64 x.round, .int .i64 x.slot] W fun e w' => e = .returned (.int .i64 pl) ∧ W = w'))
  by_cases h5 : 0 ≤ pl
  · rw [ins_no5 hi hx (by rw [← hpl]; exact h5)]
    clear hpl
    go_enter Try.func30, Try.ntmps30
    go_wp2_with fail
    refine HIS.out.mono ?_
    rintro e w1 ⟨rfl, b1⟩
    rw [hi]
    obtain ⟨q0, q1, q2, q3, q4, q5, q6, q7⟩ := (HX.out.below b1 HX.out.lt).all8
    go_wp2_with fail
    refine (HI.out _).mono ?_
    rintro e w2 ⟨rfl, b2⟩
    rw [hx]
    clear q0 q1 q2 q3 q4 q5 q6 q7
    have b1' := b1; have b2' := b2
    clear b1 b2
    obtain ⟨q0, q1, q2, q3, q4, q5, q6, q7⟩ := ((HX.out.below b1' HX.out.lt).below b2' (HX.out.below b1' HX.out.lt).lt).all8
    go_wp2_with fail
    refine (HFI.out _ (below_two b1' b2')).mono ?_
    rintro e w3 ⟨rfl, rfl⟩
    have HBE := Lib.hid (below_two (below_two HB.out b1') b2')
    clear q0 q1 q2 q3 q4 q5 q6 q7 b1' b2'
    go_wp2_with fail
    go_ret2
    exact ⟨_, rfl, OwnE.nil_, HBE.out⟩
  have hp0 : ¬ pl ≥ 0 := h5
  by_cases h3 : n = 120
  · rw [ins_no3 hi hx (by rw [← hpl]; exact h5) (by rw [HL.out]; exact h3)]
    have hz : ((n : Int) == 120) = true := by rw [beq_iff_eq]; omega
    clear hpl h5 h3 HBL
    go_enter Try.func30, Try.ntmps30
    go_wp2_with fail
    refine HIS.out.mono ?_
    rintro e w1 ⟨rfl, b1⟩
    rw [hi]
    obtain ⟨q0, q1, q2, q3, q4, q5, q6, q7⟩ := (HX.out.below b1 HX.out.lt).all8
    go_wp2_with fail
    refine (HI.out _).mono ?_
    rintro e w2 ⟨rfl, b2⟩
    rw [hx]
    clear q0 q1 q2 q3 q4 q5 q6 q7
    have b1' := b1; have b2' := b2
    clear b1 b2
    obtain ⟨q0, q1, q2, q3, q4, q5, q6, q7⟩ := ((HX.out.below b1' HX.out.lt).below b2' (HX.out.below b1' HX.out.lt).lt).all8
    go_wp2_with fail
    refine (HFI.out _ (below_two b1' b2')).mono ?_
    rintro e w3 ⟨rfl, rfl⟩
    have HBE := Lib.hid (below_two (below_two HB.out b1') b2')
    clear q0 q1 q2 q3 q4 q5 q6 q7 b1' b2'
    go_wp2_with fail
    go_ret2
    exact ⟨_, rfl, OwnE.nil_, HBE.out⟩
  rw [ins_yes hi hx (by rw [← hpl]; exact h5) (by rw [HL.out]; exact h3)]
  have hz : ((n : Int) == 120) = false := by rw [beq_eq_false_iff_ne]; omega
  have HN := Lib.hid (show n ≤ 120 from by have := (isSls_iff.1 hi).1; have := HL.out; omega)
  clear hpl h5
  go_enter Try.func30, Try.ntmps30
  go_wp2_with fail
  refine HIS.out.mono ?_
  rintro e w1 ⟨rfl, b1⟩
  rw [hi]
  obtain ⟨q0, q1, q2, q3, q4, q5, q6, q7⟩ := (HX.out.below b1 HX.out.lt).all8
  go_wp2_with fail
  refine (HI.out _).mono ?_
  rintro e w2 ⟨rfl, b2⟩
  rw [hx]
  clear q0 q1 q2 q3 q4 q5 q6 q7
  have b1' := b1; have b2' := b2
  clear b1 b2
  obtain ⟨q0, q1, q2, q3, q4, q5, q6, q7⟩ := ((HX.out.below b1' HX.out.lt).below b2' (HX.out.below b1' HX.out.lt).lt).all8
  go_wp2_with fail
  refine (HFI.out _ (below_two b1' b2')).mono ?_
  rintro e w3 ⟨rfl, rfl⟩
  have HX2 := Lib.hid ((HX.out.below b1' HX.out.lt).below b2' (HX.out.below b1' HX.out.lt).lt)
  have HB2 := Lib.hid (below_two (below_two HB.out b1') b2')
  have HR2 := Lib.hid ((HR.out.below b1').below b2')
  clear q0 q1 q2 q3 q4 q5 q6 q7 b1' b2' HFI HIS HI HX HB HR
  have HO0 := Lib.hid (OwnE.of_alloc_nil (E := 38) (w := w2) (base := w.heap.size + 1) HX2.out.lt)
  have ba := (Below.refl w2.heap.size w2).alloc (Nat.le_refl _) (.cells #[] 38)
  have HX3 := Lib.hid (HX2.out.below ba HX2.out.lt)
  have HB3 := Lib.hid (below_two HB2.out ba)
  have HR3 := Lib.hid (HR2.out.below ba)
  clear ba HX2 HB2 HR2
  go_wp2_with fail
  clear hz hp0
  go_loopw [6, 7] (fun s i wr => ∃ (k : Nat) (v : Value), k ≤ n ∧ v = s ∧ i = .int .i64 k ∧ Hid (OwnE 38 wr (w.heap.size + 1) v (befTo t x k)) ∧ Hid (Below w.heap.size w wr) ∧ Hid (SlBk 38 wr w.heap.size x) ∧ Hid (RdE wr ao n t)) (fun _ i _ => n - (intOf i).toNat)
  case atStart => exact ⟨0, _, Nat.zero_le _, rfl, rfl, HO0.out, HB3.out, HX3.out, HR3.out⟩
  case round =>
    clear HO0 HB3 HX3 HR3
    obtain ⟨k, v, hk, rfl, rfl, HO, HB, HX, HR⟩ := hrel
    by_cases hlt : k < n
    · obtain ⟨b, off, e0, hg, hy⟩ := HR.out.at hlt
      subst e0
      have HSU := Lib.hid (befTo_succ (t := t) (x := x) (k := k) (by rw [HL.out]; exact hlt))
      have HLE := Lib.hid (befTo_le (t := t) (x := x) (k := k))
      have HK := Lib.hid (show k ≤ 120 from by have := HN.out; omega)
      have hbw := HBL.out b off rfl (by omega)
      obtain ⟨y, hye⟩ : ∃ y, y = slOf t k := ⟨_, rfl⟩
      rw [← hye] at hy HSU
      have HCY := Lib.hid (HC.out y)
      obtain ⟨z, hze⟩ : ∃ z, z = cmpSl y x := ⟨_, rfl⟩
      rw [← hze] at HCY HSU
      have HY := Lib.hid hy
      clear hye hze hy hg
      go_upto_region 13 with fail
      have HXW := Lib.hid (fun W (hW : Below wr.heap.size wr W) => (HX.out.below hW HX.out.lt).all8)
      have HYW := Lib.hid (fun W (hW : Below wr.heap.size wr W) => (HY.out.below hW HY.out.lt).all8)
      have HD := Lib.hid (show Below wr.heap.size wr wr.drew from Below.drew (Below.refl _ _))
      have hki0 : (0 : Int) ≤ (k : Int) := by omega
      have hki1 : (k : Int) < (n : Int) := by omega
      by_cases hz : z < 0
      · have HF := Lib.hid (show befTo t x (k + 1) = befTo t x k ++ [y] from by rw [HSU.out, if_pos hz])
        refine wp_region_held_drew (S := fun w' => (w'.cell? ⟨w.heap.size, 0, none⟩ = some (Value.int .i64 x.mode) ∧ w'.cell? ⟨w.heap.size, 1, none⟩ = some (Value.int .i64 x.round) ∧ w'.cell? ⟨w.heap.size, 2, none⟩ = some (Value.int .i64 x.slot) ∧ w'.cell? ⟨w.heap.size, 3, none⟩ = some (Value.int .i64 x.desc.node) ∧ w'.cell? ⟨w.heap.size, 4, none⟩ = some (Value.int .i64 x.desc.kind) ∧ w'.cell? ⟨w.heap.size, 5, none⟩ = some (Value.int .i64 x.desc.size) ∧ w'.cell? ⟨w.heap.size, 6, none⟩ = some (Value.int .i64 x.desc.dur) ∧ w'.cell? ⟨w.heap.size, 7, none⟩ = some (Value.bool x.desc.chg)) ∧ (w'.cell? ⟨b, off + k * 8, none⟩ = some (Value.int .i64 y.mode) ∧ w'.cell? ⟨b, off + k * 8 + 1, none⟩ = some (Value.int .i64 y.round) ∧ w'.cell? ⟨b, off + k * 8 + 2, none⟩ = some (Value.int .i64 y.slot) ∧ w'.cell? ⟨b, off + k * 8 + 3, none⟩ = some (Value.int .i64 y.desc.node) ∧ w'.cell? ⟨b, off + k * 8 + 4, none⟩ = some (Value.int .i64 y.desc.kind) ∧ w'.cell? ⟨b, off + k * 8 + 5, none⟩ = some (Value.int .i64 y.desc.size) ∧ w'.cell? ⟨b, off + k * 8 + 6, none⟩ = some (Value.int .i64 y.desc.dur) ∧ w'.cell? ⟨b, off + k * 8 + 7, none⟩ = some (Value.bool y.desc.chg))) (by kernel_rfl) (⟨HXW.out _ HD.out, HYW.out _ HD.out⟩) (fun hHeld => ?_)
        generalize wr.drew = w4 at HD hHeld ⊢
        refine wpAnyH_take (i := 0) (v := ?_) rfl (by kernel_rfl) (by kernel_rfl) (by kernel_rfl) (fun _ _ _ h => h) (Or.inl ⟨by rfl, ?_⟩) (by assumption) ?_
        rotate_left
        · (intro w hSw; (try dsimp only at hSw); go_simp; (try with_reducible rfl))
        try simp only [List.getElem_toArray, List.getElem_cons_succ, List.getElem_cons_zero, Act.put, List.setIfInBounds_toArray, List.set_cons_zero, List.set_cons_succ]
        refine wpAnyH_take (i := 1) (v := ?_) rfl (by kernel_rfl) (by kernel_rfl) (by kernel_rfl) (fun _ _ _ h => h) (Or.inl ⟨by rfl, ?_⟩) (by assumption) ?_
        rotate_left
        · (intro w hSw; (try dsimp only at hSw); go_simp; (try with_reducible rfl))
        try simp only [List.getElem_toArray, List.getElem_cons_succ, List.getElem_cons_zero, Act.put, List.setIfInBounds_toArray, List.set_cons_zero, List.set_cons_succ]
        refine wpAnyH_take (i := 2) (v := ?_) rfl (by kernel_rfl) (by kernel_rfl) (by kernel_rfl) (fun _ _ _ h => h) (Or.inl ⟨by rfl, ?_⟩) (by assumption) ?_
        rotate_left
        · (intro w hSw; (try dsimp only at hSw); go_simp; (try with_reducible rfl))
        try simp only [List.getElem_toArray, List.getElem_cons_succ, List.getElem_cons_zero, Act.put, List.setIfInBounds_toArray, List.set_cons_zero, List.set_cons_succ]
        refine wpAnyH_take (i := 3) (v := ?_) rfl (by kernel_rfl) (by kernel_rfl) (by kernel_rfl) (fun _ _ _ h => h) (Or.inl ⟨by rfl, ?_⟩) (by assumption) ?_
        rotate_left
        · (intro w hSw; (try dsimp only at hSw); go_simp; (try with_reducible rfl))
        try simp only [List.getElem_toArray, List.getElem_cons_succ, List.getElem_cons_zero, Act.put, List.setIfInBounds_toArray, List.set_cons_zero, List.set_cons_succ]
        refine wpAnyH_take (i := 4) (v := ?_) rfl (by kernel_rfl) (by kernel_rfl) (by kernel_rfl) (fun _ _ _ h => h) (Or.inl ⟨by rfl, ?_⟩) (by assumption) ?_
        rotate_left
        · (intro w hSw; (try dsimp only at hSw); go_simp; (try with_reducible rfl))
        try simp only [List.getElem_toArray, List.getElem_cons_succ, List.getElem_cons_zero, Act.put, List.setIfInBounds_toArray, List.set_cons_zero, List.set_cons_succ]
        refine wpAnyH_ready (rs := [5]) (by kernel_rfl) (by simp) (AllReadyH.cons rfl (fun K hK => ?_) AllReadyH.nil)
        go_simp
        refine (HCY.out _).mono ?_
        rintro e w5 ⟨rfl, b5⟩
        have HD5 := Lib.hid (below_two HD.out b5); clear b5
        go_wp2_with fail
        refine hK.out _ _ ?_ (fun hHeld => ?_)
        · exact ⟨HXW.out _ HD5.out, HYW.out _ HD5.out⟩
        clear hK K
        try simp only [List.getElem_toArray, List.getElem_cons_succ, List.getElem_cons_zero, Act.put, List.setIfInBounds_toArray, List.set_cons_zero, List.set_cons_succ]
        refine wpAnyH_take (i := 6) (v := ?_) rfl (by kernel_rfl) (by kernel_rfl) (by kernel_rfl) (fun _ _ _ h => h) (Or.inl ⟨by rfl, ?_⟩) (by assumption) ?_
        rotate_left
        · (intro w hSw; (try dsimp only at hSw); go_simp; (try with_reducible rfl))
        try simp only [List.getElem_toArray, List.getElem_cons_succ, List.getElem_cons_zero, Act.put, List.setIfInBounds_toArray, List.set_cons_zero, List.set_cons_succ]
        refine wpAnyH_done (by kernel_rfl) ?_ _
        have HO5 := Lib.hid (HO.out.below HD5.out)
        have HB5 := Lib.hid (below_two HB.out HD5.out)
        have HX5 := Lib.hid (HX.out.below HD5.out HX.out.lt)
        have HR5 := Lib.hid (HR.out.below HD5.out)
        obtain ⟨q0, q1, q2, q3, q4, q5, q6, q7⟩ := HYW.out _ HD5.out
        have ba := (Below.refl w5.heap.size w5).alloc (Nat.le_refl _) (.cells #[.int .i64 y.mode, .int .i64 y.round, .int .i64 y.slot, .int .i64 y.desc.node, .int .i64 y.desc.kind, .int .i64 y.desc.size, .int .i64 y.desc.dur, .bool y.desc.chg] 38)
        have HO6 := Lib.hid (HO5.out.below ba)
        have HB6 := Lib.hid (below_two HB5.out ba)
        have HX6 := Lib.hid (HX5.out.below ba HX5.out.lt)
        have HR6 := Lib.hid (HR5.out.below ba)
        have HY6 := Lib.hid (show SlIn (w5.alloc (.cells #[.int .i64 y.mode, .int .i64 y.round, .int .i64 y.slot, .int .i64 y.desc.node, .int .i64 y.desc.kind, .int .i64 y.desc.size, .int .i64 y.desc.dur, .bool y.desc.chg] 38)) w5.heap.size 0 y from (SlBk.new (T := 38) (x := y) w5).in_)
        clear ba
        have hlen : (befTo t x k).length ≤ 1073741824 := by have h1 := HLE.out; have h2 := HK.out; omega
        have hbs : w.heap.size + 1 ≤ _ := HX6.out.lt
        go_wp2_with (at_builtin; refine append_sl _ rfl (.tmp 45) (.tmp 50) rfl (w.heap.size + 1) Try.underlying24 infoSl v (befTo t x k) rfl HO6.out w5.heap.size 0 y 1 rfl HY6.out hlen hbs ?_; intro v6 w6 o6 b6)
        rw [← HF.out] at o6
        have HO7 := Lib.hid o6
        have HB7 := Lib.hid (HB6.out.trans (b6.mono (Nat.le_succ _)))
        have HX7 := Lib.hid (HX6.out.below b6 (Nat.lt_succ_self _))
        have HR7 := Lib.hid (HR6.out.below3 b6 (fun b' off' e h0 => by have := HBL.out b' off' e h0; omega))
        clear o6 b6 q0 q1 q2 q3 q4 q5 q6 q7
        go_wp2_with fail
        go_roundw
        case rel => exact ⟨k + 1, v6, by omega, rfl, by go_num, HO7, HB7, HX7, HR7⟩
        case measure => simp [intOf]; omega
      · have HF := Lib.hid (show befTo t x (k + 1) = befTo t x k from by rw [HSU.out, if_neg hz])
        refine wp_region_held_drew (S := fun w' => (w'.cell? ⟨w.heap.size, 0, none⟩ = some (Value.int .i64 x.mode) ∧ w'.cell? ⟨w.heap.size, 1, none⟩ = some (Value.int .i64 x.round) ∧ w'.cell? ⟨w.heap.size, 2, none⟩ = some (Value.int .i64 x.slot) ∧ w'.cell? ⟨w.heap.size, 3, none⟩ = some (Value.int .i64 x.desc.node) ∧ w'.cell? ⟨w.heap.size, 4, none⟩ = some (Value.int .i64 x.desc.kind) ∧ w'.cell? ⟨w.heap.size, 5, none⟩ = some (Value.int .i64 x.desc.size) ∧ w'.cell? ⟨w.heap.size, 6, none⟩ = some (Value.int .i64 x.desc.dur) ∧ w'.cell? ⟨w.heap.size, 7, none⟩ = some (Value.bool x.desc.chg)) ∧ (w'.cell? ⟨b, off + k * 8, none⟩ = some (Value.int .i64 y.mode) ∧ w'.cell? ⟨b, off + k * 8 + 1, none⟩ = some (Value.int .i64 y.round) ∧ w'.cell? ⟨b, off + k * 8 + 2, none⟩ = some (Value.int .i64 y.slot) ∧ w'.cell? ⟨b, off + k * 8 + 3, none⟩ = some (Value.int .i64 y.desc.node) ∧ w'.cell? ⟨b, off + k * 8 + 4, none⟩ = some (Value.int .i64 y.desc.kind) ∧ w'.cell? ⟨b, off + k * 8 + 5, none⟩ = some (Value.int .i64 y.desc.size) ∧ w'.cell? ⟨b, off + k * 8 + 6, none⟩ = some (Value.int .i64 y.desc.dur) ∧ w'.cell? ⟨b, off + k * 8 + 7, none⟩ = some (Value.bool y.desc.chg))) (by kernel_rfl) (⟨HXW.out _ HD.out, HYW.out _ HD.out⟩) (fun hHeld => ?_)
        generalize wr.drew = w4 at HD hHeld ⊢
        refine wpAnyH_take (i := 0) (v := ?_) rfl (by kernel_rfl) (by kernel_rfl) (by kernel_rfl) (fun _ _ _ h => h) (Or.inl ⟨by rfl, ?_⟩) (by assumption) ?_
        rotate_left
        · (intro w hSw; (try dsimp only at hSw); go_simp; (try with_reducible rfl))
        try simp only [List.getElem_toArray, List.getElem_cons_succ, List.getElem_cons_zero, Act.put, List.setIfInBounds_toArray, List.set_cons_zero, List.set_cons_succ]
        refine wpAnyH_take (i := 1) (v := ?_) rfl (by kernel_rfl) (by kernel_rfl) (by kernel_rfl) (fun _ _ _ h => h) (Or.inl ⟨by rfl, ?_⟩) (by assumption) ?_
        rotate_left
        · (intro w hSw; (try dsimp only at hSw); go_simp; (try with_reducible rfl))
        try simp only [List.getElem_toArray, List.getElem_cons_succ, List.getElem_cons_zero, Act.put, List.setIfInBounds_toArray, List.set_cons_zero, List.set_cons_succ]
        refine wpAnyH_take (i := 2) (v := ?_) rfl (by kernel_rfl) (by kernel_rfl) (by kernel_rfl) (fun _ _ _ h => h) (Or.inl ⟨by rfl, ?_⟩) (by assumption) ?_
        rotate_left
        · (intro w hSw; (try dsimp only at hSw); go_simp; (try with_reducible rfl))
        try simp only [List.getElem_toArray, List.getElem_cons_succ, List.getElem_cons_zero, Act.put, List.setIfInBounds_toArray, List.set_cons_zero, List.set_cons_succ]
        refine wpAnyH_take (i := 3) (v := ?_) rfl (by kernel_rfl) (by kernel_rfl) (by kernel_rfl) (fun _ _ _ h => h) (Or.inl ⟨by rfl, ?_⟩) (by assumption) ?_
        rotate_left
        · (intro w hSw; (try dsimp only at hSw); go_simp; (try with_reducible rfl))
        try simp only [List.getElem_toArray, List.getElem_cons_succ, List.getElem_cons_zero, Act.put, List.setIfInBounds_toArray, List.set_cons_zero, List.set_cons_succ]
        refine wpAnyH_take (i := 4) (v := ?_) rfl (by kernel_rfl) (by kernel_rfl) (by kernel_rfl) (fun _ _ _ h => h) (Or.inl ⟨by rfl, ?_⟩) (by assumption) ?_
        rotate_left
        · (intro w hSw; (try dsimp only at hSw); go_simp; (try with_reducible rfl))
        try simp only [List.getElem_toArray, List.getElem_cons_succ, List.getElem_cons_zero, Act.put, List.setIfInBounds_toArray, List.set_cons_zero, List.set_cons_succ]
        refine wpAnyH_ready (rs := [5]) (by kernel_rfl) (by simp) (AllReadyH.cons rfl (fun K hK => ?_) AllReadyH.nil)
        go_simp
        refine (HCY.out _).mono ?_
        rintro e w5 ⟨rfl, b5⟩
        have HD5 := Lib.hid (below_two HD.out b5); clear b5
        go_wp2_with fail
        refine hK.out _ _ ?_ (fun hHeld => ?_)
        · exact ⟨HXW.out _ HD5.out, HYW.out _ HD5.out⟩
        clear hK K
        try simp only [List.getElem_toArray, List.getElem_cons_succ, List.getElem_cons_zero, Act.put, List.setIfInBounds_toArray, List.set_cons_zero, List.set_cons_succ]
        refine wpAnyH_take (i := 6) (v := ?_) rfl (by kernel_rfl) (by kernel_rfl) (by kernel_rfl) (fun _ _ _ h => h) (Or.inl ⟨by rfl, ?_⟩) (by assumption) ?_
        rotate_left
        · (intro w hSw; (try dsimp only at hSw); go_simp; (try with_reducible rfl))
        try simp only [List.getElem_toArray, List.getElem_cons_succ, List.getElem_cons_zero, Act.put, List.setIfInBounds_toArray, List.set_cons_zero, List.set_cons_succ]
        refine wpAnyH_done (by kernel_rfl) ?_ _
        have HO5 := Lib.hid (HO.out.below HD5.out)
        have HB5 := Lib.hid (below_two HB.out HD5.out)
        have HX5 := Lib.hid (HX.out.below HD5.out HX.out.lt)
        have HR5 := Lib.hid (HR.out.below HD5.out)
        rw [← HF.out] at HO5
        go_wp2_with fail
        go_roundw
        case rel => exact ⟨k + 1, v, by omega, rfl, by go_num, HO5, HB5, HX5, HR5⟩
        case measure => simp [intOf]; omega
    · have hkn : n = k := by omega
      subst hkn
      have HFB := Lib.hid (befTo_all (x := x) (show t.length ≤ n by rw [HL.out]; exact Nat.le_refl _))
      rw [HFB.out] at HO
      obtain ⟨q0, q1, q2, q3, q4, q5, q6, q7⟩ := HX.out.all8
      have ba := (Below.refl wr.heap.size wr).alloc (Nat.le_refl _) (.cells #[.int .i64 x.mode, .int .i64 x.round, .int .i64 x.slot, .int .i64 x.desc.node, .int .i64 x.desc.kind, .int .i64 x.desc.size, .int .i64 x.desc.dur, .bool x.desc.chg] 38)
      have HO6 := Lib.hid (HO.out.below ba)
      have HB6 := Lib.hid (below_two HB.out ba)
      have HX6 := Lib.hid (HX.out.below ba HX.out.lt)
      have HR6 := Lib.hid (HR.out.below ba)
      have HY6 := Lib.hid (show SlIn (wr.alloc (.cells #[.int .i64 x.mode, .int .i64 x.round, .int .i64 x.slot, .int .i64 x.desc.node, .int .i64 x.desc.kind, .int .i64 x.desc.size, .int .i64 x.desc.dur, .bool x.desc.chg] 38)) wr.heap.size 0 x from (SlBk.new (T := 38) (x := x) wr).in_)
      clear ba
      have hlen : (before t x).length ≤ 1073741824 := by unfold before; have := List.length_filter_le (fun y => decide (cmpSl y x < 0)) t; have := HL.out; omega
      have hbs : w.heap.size + 1 ≤ _ := HX6.out.lt
      go_wp2_with (at_builtin; refine append_sl _ rfl (.tmp 52) (.tmp 54) rfl (w.heap.size + 1) Try.underlying24 infoSl v (before t x) rfl HO6.out wr.heap.size 0 x 1 rfl HY6.out hlen hbs ?_; intro v6 w6 o6 b6)
      have HO4 := Lib.hid o6
      have HB4 := Lib.hid (HB6.out.trans (b6.mono (Nat.le_succ _)))
      have HX4 := Lib.hid (HX6.out.below b6 (Nat.lt_succ_self _))
      have HR4 := Lib.hid (HR6.out.below3 b6 (fun b' off' e h0 => by have := HBL.out b' off' e h0; omega))
      clear o6 b6 q0 q1 q2 q3 q4 q5 q6 q7 HO HB HX HR HO6 HB6 HX6 HR6 HY6 hbs hlen HFB
      have HO4 : Hid (OwnE 38 w6 (w.heap.size + 1) v6 (before t x ++ [x] ++ behTo t x 0)) := by rw [show behTo t x 0 = [] from rfl, List.append_nil]; exact HO4
      go_wp2_with fail
      go_loopw [6, 8] (fun s i wr => ∃ (k : Nat) (v : Value), k ≤ n ∧ v = s ∧ i = .int .i64 k ∧ Hid (OwnE 38 wr (w.heap.size + 1) v (before t x ++ [x] ++ behTo t x k)) ∧ Hid (Below w.heap.size w wr) ∧ Hid (SlBk 38 wr w.heap.size x) ∧ Hid (RdE wr ao n t)) (fun _ i _ => n - (intOf i).toNat)
      case atStart => exact ⟨0, _, Nat.zero_le _, rfl, rfl, HO4.out, HB4.out, HX4.out, HR4.out⟩
      case round =>
        clear HO4 HB4 HX4 HR4
        obtain ⟨k, v, hk, rfl, rfl, HO, HB, HX, HR⟩ := hrel
        by_cases hlt : k < n
        · obtain ⟨b, off, e0, hg, hy⟩ := HR.out.at hlt
          subst e0
          have HSU := Lib.hid (behTo_succ (t := t) (x := x) (k := k) (by rw [HL.out]; exact hlt))
          have HLE := Lib.hid (behTo_le (t := t) (x := x) (k := k))
          have HK := Lib.hid (show k ≤ 120 from by have := HN.out; omega)
          have hbw := HBL.out b off rfl (by omega)
          obtain ⟨y, hye⟩ : ∃ y, y = slOf t k := ⟨_, rfl⟩
          rw [← hye] at hy HSU
          have HCY := Lib.hid (HC.out y)
          obtain ⟨z, hze⟩ : ∃ z, z = cmpSl y x := ⟨_, rfl⟩
          rw [← hze] at HCY HSU
          have HY := Lib.hid hy
          clear hye hze hy hg
          go_upto_region 19 with fail
          have HXW := Lib.hid (fun W (hW : Below wr.heap.size wr W) => (HX.out.below hW HX.out.lt).all8)
          have HYW := Lib.hid (fun W (hW : Below wr.heap.size wr W) => (HY.out.below hW HY.out.lt).all8)
          have HD := Lib.hid (show Below wr.heap.size wr wr.drew from Below.drew (Below.refl _ _))
          have hki0 : (0 : Int) ≤ (k : Int) := by omega
          have hki1 : (k : Int) < (n : Int) := by omega
          by_cases hz : 0 < z
          · have HF := Lib.hid (show before t x ++ [x] ++ behTo t x (k + 1) = (before t x ++ [x] ++ behTo t x k) ++ [y] from by rw [HSU.out, if_pos hz]; simp [List.append_assoc])
            have hz2 : z > 0 := hz
            refine wp_region_held_drew (S := fun w' => (w'.cell? ⟨w.heap.size, 0, none⟩ = some (Value.int .i64 x.mode) ∧ w'.cell? ⟨w.heap.size, 1, none⟩ = some (Value.int .i64 x.round) ∧ w'.cell? ⟨w.heap.size, 2, none⟩ = some (Value.int .i64 x.slot) ∧ w'.cell? ⟨w.heap.size, 3, none⟩ = some (Value.int .i64 x.desc.node) ∧ w'.cell? ⟨w.heap.size, 4, none⟩ = some (Value.int .i64 x.desc.kind) ∧ w'.cell? ⟨w.heap.size, 5, none⟩ = some (Value.int .i64 x.desc.size) ∧ w'.cell? ⟨w.heap.size, 6, none⟩ = some (Value.int .i64 x.desc.dur) ∧ w'.cell? ⟨w.heap.size, 7, none⟩ = some (Value.bool x.desc.chg)) ∧ (w'.cell? ⟨b, off + k * 8, none⟩ = some (Value.int .i64 y.mode) ∧ w'.cell? ⟨b, off + k * 8 + 1, none⟩ = some (Value.int .i64 y.round) ∧ w'.cell? ⟨b, off + k * 8 + 2, none⟩ = some (Value.int .i64 y.slot) ∧ w'.cell? ⟨b, off + k * 8 + 3, none⟩ = some (Value.int .i64 y.desc.node) ∧ w'.cell? ⟨b, off + k * 8 + 4, none⟩ = some (Value.int .i64 y.desc.kind) ∧ w'.cell? ⟨b, off + k * 8 + 5, none⟩ = some (Value.int .i64 y.desc.size) ∧ w'.cell? ⟨b, off + k * 8 + 6, none⟩ = some (Value.int .i64 y.desc.dur) ∧ w'.cell? ⟨b, off + k * 8 + 7, none⟩ = some (Value.bool y.desc.chg))) (by kernel_rfl) (⟨HXW.out _ HD.out, HYW.out _ HD.out⟩) (fun hHeld => ?_)
            generalize wr.drew = w4 at HD hHeld ⊢
            refine wpAnyH_take (i := 0) (v := ?_) rfl (by kernel_rfl) (by kernel_rfl) (by kernel_rfl) (fun _ _ _ h => h) (Or.inl ⟨by rfl, ?_⟩) (by assumption) ?_
            rotate_left
            · (intro w hSw; (try dsimp only at hSw); go_simp; (try with_reducible rfl))
            try simp only [List.getElem_toArray, List.getElem_cons_succ, List.getElem_cons_zero, Act.put, List.setIfInBounds_toArray, List.set_cons_zero, List.set_cons_succ]
            refine wpAnyH_take (i := 1) (v := ?_) rfl (by kernel_rfl) (by kernel_rfl) (by kernel_rfl) (fun _ _ _ h => h) (Or.inl ⟨by rfl, ?_⟩) (by assumption) ?_
            rotate_left
            · (intro w hSw; (try dsimp only at hSw); go_simp; (try with_reducible rfl))
            try simp only [List.getElem_toArray, List.getElem_cons_succ, List.getElem_cons_zero, Act.put, List.setIfInBounds_toArray, List.set_cons_zero, List.set_cons_succ]
            refine wpAnyH_take (i := 2) (v := ?_) rfl (by kernel_rfl) (by kernel_rfl) (by kernel_rfl) (fun _ _ _ h => h) (Or.inl ⟨by rfl, ?_⟩) (by assumption) ?_
            rotate_left
            · (intro w hSw; (try dsimp only at hSw); go_simp; (try with_reducible rfl))
            try simp only [List.getElem_toArray, List.getElem_cons_succ, List.getElem_cons_zero, Act.put, List.setIfInBounds_toArray, List.set_cons_zero, List.set_cons_succ]
            refine wpAnyH_take (i := 3) (v := ?_) rfl (by kernel_rfl) (by kernel_rfl) (by kernel_rfl) (fun _ _ _ h => h) (Or.inl ⟨by rfl, ?_⟩) (by assumption) ?_
            rotate_left
            · (intro w hSw; (try dsimp only at hSw); go_simp; (try with_reducible rfl))
            try simp only [List.getElem_toArray, List.getElem_cons_succ, List.getElem_cons_zero, Act.put, List.setIfInBounds_toArray, List.set_cons_zero, List.set_cons_succ]
            refine wpAnyH_take (i := 4) (v := ?_) rfl (by kernel_rfl) (by kernel_rfl) (by kernel_rfl) (fun _ _ _ h => h) (Or.inl ⟨by rfl, ?_⟩) (by assumption) ?_
            rotate_left
            · (intro w hSw; (try dsimp only at hSw); go_simp; (try with_reducible rfl))
            try simp only [List.getElem_toArray, List.getElem_cons_succ, List.getElem_cons_zero, Act.put, List.setIfInBounds_toArray, List.set_cons_zero, List.set_cons_succ]
            refine wpAnyH_ready (rs := [5]) (by kernel_rfl) (by simp) (AllReadyH.cons rfl (fun K hK => ?_) AllReadyH.nil)
            go_simp
            refine (HCY.out _).mono ?_
            rintro e w5 ⟨rfl, b5⟩
            have HD5 := Lib.hid (below_two HD.out b5); clear b5
            go_wp2_with fail
            refine hK.out _ _ ?_ (fun hHeld => ?_)
            · exact ⟨HXW.out _ HD5.out, HYW.out _ HD5.out⟩
            clear hK K
            try simp only [List.getElem_toArray, List.getElem_cons_succ, List.getElem_cons_zero, Act.put, List.setIfInBounds_toArray, List.set_cons_zero, List.set_cons_succ]
            refine wpAnyH_take (i := 6) (v := ?_) rfl (by kernel_rfl) (by kernel_rfl) (by kernel_rfl) (fun _ _ _ h => h) (Or.inl ⟨by rfl, ?_⟩) (by assumption) ?_
            rotate_left
            · (intro w hSw; (try dsimp only at hSw); go_simp; (try with_reducible rfl))
            try simp only [List.getElem_toArray, List.getElem_cons_succ, List.getElem_cons_zero, Act.put, List.setIfInBounds_toArray, List.set_cons_zero, List.set_cons_succ]
            refine wpAnyH_done (by kernel_rfl) ?_ _
            have HO5 := Lib.hid (HO.out.below HD5.out)
            have HB5 := Lib.hid (below_two HB.out HD5.out)
            have HX5 := Lib.hid (HX.out.below HD5.out HX.out.lt)
            have HR5 := Lib.hid (HR.out.below HD5.out)
            obtain ⟨q0, q1, q2, q3, q4, q5, q6, q7⟩ := HYW.out _ HD5.out
            have ba := (Below.refl w5.heap.size w5).alloc (Nat.le_refl _) (.cells #[.int .i64 y.mode, .int .i64 y.round, .int .i64 y.slot, .int .i64 y.desc.node, .int .i64 y.desc.kind, .int .i64 y.desc.size, .int .i64 y.desc.dur, .bool y.desc.chg] 38)
            have HO6 := Lib.hid (HO5.out.below ba)
            have HB6 := Lib.hid (below_two HB5.out ba)
            have HX6 := Lib.hid (HX5.out.below ba HX5.out.lt)
            have HR6 := Lib.hid (HR5.out.below ba)
            have HY6 := Lib.hid (show SlIn (w5.alloc (.cells #[.int .i64 y.mode, .int .i64 y.round, .int .i64 y.slot, .int .i64 y.desc.node, .int .i64 y.desc.kind, .int .i64 y.desc.size, .int .i64 y.desc.dur, .bool y.desc.chg] 38)) w5.heap.size 0 y from (SlBk.new (T := 38) (x := y) w5).in_)
            clear ba
            have hlen : (before t x ++ [x] ++ behTo t x k).length ≤ 1073741824 := by have h1 := HLE.out; have h2 := HK.out; have h3 : (before t x).length ≤ 120 := (by unfold before; have := List.length_filter_le (fun y => decide (cmpSl y x < 0)) t; have := HL.out; have := HN.out; omega); rw [List.length_append, List.length_append, List.length_singleton]; omega
            have hbs : w.heap.size + 1 ≤ _ := HX6.out.lt
            go_wp2_with (at_builtin; refine append_sl _ rfl (.tmp 69) (.tmp 74) rfl (w.heap.size + 1) Try.underlying24 infoSl v (before t x ++ [x] ++ behTo t x k) rfl HO6.out w5.heap.size 0 y 1 rfl HY6.out hlen hbs ?_; intro v6 w6 o6 b6)
            rw [← HF.out] at o6
            have HO7 := Lib.hid o6
            have HB7 := Lib.hid (HB6.out.trans (b6.mono (Nat.le_succ _)))
            have HX7 := Lib.hid (HX6.out.below b6 (Nat.lt_succ_self _))
            have HR7 := Lib.hid (HR6.out.below3 b6 (fun b' off' e h0 => by have := HBL.out b' off' e h0; omega))
            clear o6 b6 q0 q1 q2 q3 q4 q5 q6 q7
            go_wp2_with fail
            go_roundw
            case rel => exact ⟨k + 1, v6, by omega, rfl, by go_num, HO7, HB7, HX7, HR7⟩
            case measure => simp [intOf]; omega
          · have HF := Lib.hid (show before t x ++ [x] ++ behTo t x (k + 1) = before t x ++ [x] ++ behTo t x k from by rw [HSU.out, if_neg hz])
            have hz2 : ¬ z > 0 := hz
            refine wp_region_held_drew (S := fun w' => (w'.cell? ⟨w.heap.size, 0, none⟩ = some (Value.int .i64 x.mode) ∧ w'.cell? ⟨w.heap.size, 1, none⟩ = some (Value.int .i64 x.round) ∧ w'.cell? ⟨w.heap.size, 2, none⟩ = some (Value.int .i64 x.slot) ∧ w'.cell? ⟨w.heap.size, 3, none⟩ = some (Value.int .i64 x.desc.node) ∧ w'.cell? ⟨w.heap.size, 4, none⟩ = some (Value.int .i64 x.desc.kind) ∧ w'.cell? ⟨w.heap.size, 5, none⟩ = some (Value.int .i64 x.desc.size) ∧ w'.cell? ⟨w.heap.size, 6, none⟩ = some (Value.int .i64 x.desc.dur) ∧ w'.cell? ⟨w.heap.size, 7, none⟩ = some (Value.bool x.desc.chg)) ∧ (w'.cell? ⟨b, off + k * 8, none⟩ = some (Value.int .i64 y.mode) ∧ w'.cell? ⟨b, off + k * 8 + 1, none⟩ = some (Value.int .i64 y.round) ∧ w'.cell? ⟨b, off + k * 8 + 2, none⟩ = some (Value.int .i64 y.slot) ∧ w'.cell? ⟨b, off + k * 8 + 3, none⟩ = some (Value.int .i64 y.desc.node) ∧ w'.cell? ⟨b, off + k * 8 + 4, none⟩ = some (Value.int .i64 y.desc.kind) ∧ w'.cell? ⟨b, off + k * 8 + 5, none⟩ = some (Value.int .i64 y.desc.size) ∧ w'.cell? ⟨b, off + k * 8 + 6, none⟩ = some (Value.int .i64 y.desc.dur) ∧ w'.cell? ⟨b, off + k * 8 + 7, none⟩ = some (Value.bool y.desc.chg))) (by kernel_rfl) (⟨HXW.out _ HD.out, HYW.out _ HD.out⟩) (fun hHeld => ?_)
            generalize wr.drew = w4 at HD hHeld ⊢
            refine wpAnyH_take (i := 0) (v := ?_) rfl (by kernel_rfl) (by kernel_rfl) (by kernel_rfl) (fun _ _ _ h => h) (Or.inl ⟨by rfl, ?_⟩) (by assumption) ?_
            rotate_left
            · (intro w hSw; (try dsimp only at hSw); go_simp; (try with_reducible rfl))
            try simp only [List.getElem_toArray, List.getElem_cons_succ, List.getElem_cons_zero, Act.put, List.setIfInBounds_toArray, List.set_cons_zero, List.set_cons_succ]
            refine wpAnyH_take (i := 1) (v := ?_) rfl (by kernel_rfl) (by kernel_rfl) (by kernel_rfl) (fun _ _ _ h => h) (Or.inl ⟨by rfl, ?_⟩) (by assumption) ?_
            rotate_left
            · (intro w hSw; (try dsimp only at hSw); go_simp; (try with_reducible rfl))
            try simp only [List.getElem_toArray, List.getElem_cons_succ, List.getElem_cons_zero, Act.put, List.setIfInBounds_toArray, List.set_cons_zero, List.set_cons_succ]
            refine wpAnyH_take (i := 2) (v := ?_) rfl (by kernel_rfl) (by kernel_rfl) (by kernel_rfl) (fun _ _ _ h => h) (Or.inl ⟨by rfl, ?_⟩) (by assumption) ?_
            rotate_left
            · (intro w hSw; (try dsimp only at hSw); go_simp; (try with_reducible rfl))
            try simp only [List.getElem_toArray, List.getElem_cons_succ, List.getElem_cons_zero, Act.put, List.setIfInBounds_toArray, List.set_cons_zero, List.set_cons_succ]
            refine wpAnyH_take (i := 3) (v := ?_) rfl (by kernel_rfl) (by kernel_rfl) (by kernel_rfl) (fun _ _ _ h => h) (Or.inl ⟨by rfl, ?_⟩) (by assumption) ?_
            rotate_left
            · (intro w hSw; (try dsimp only at hSw); go_simp; (try with_reducible rfl))
            try simp only [List.getElem_toArray, List.getElem_cons_succ, List.getElem_cons_zero, Act.put, List.setIfInBounds_toArray, List.set_cons_zero, List.set_cons_succ]
            refine wpAnyH_take (i := 4) (v := ?_) rfl (by kernel_rfl) (by kernel_rfl) (by kernel_rfl) (fun _ _ _ h => h) (Or.inl ⟨by rfl, ?_⟩) (by assumption) ?_
            rotate_left
            · (intro w hSw; (try dsimp only at hSw); go_simp; (try with_reducible rfl))
            try simp only [List.getElem_toArray, List.getElem_cons_succ, List.getElem_cons_zero, Act.put, List.setIfInBounds_toArray, List.set_cons_zero, List.set_cons_succ]
            refine wpAnyH_ready (rs := [5]) (by kernel_rfl) (by simp) (AllReadyH.cons rfl (fun K hK => ?_) AllReadyH.nil)
            go_simp
            refine (HCY.out _).mono ?_
            rintro e w5 ⟨rfl, b5⟩
            have HD5 := Lib.hid (below_two HD.out b5); clear b5
            go_wp2_with fail
            refine hK.out _ _ ?_ (fun hHeld => ?_)
            · exact ⟨HXW.out _ HD5.out, HYW.out _ HD5.out⟩
            clear hK K
            try simp only [List.getElem_toArray, List.getElem_cons_succ, List.getElem_cons_zero, Act.put, List.setIfInBounds_toArray, List.set_cons_zero, List.set_cons_succ]
            refine wpAnyH_take (i := 6) (v := ?_) rfl (by kernel_rfl) (by kernel_rfl) (by kernel_rfl) (fun _ _ _ h => h) (Or.inl ⟨by rfl, ?_⟩) (by assumption) ?_
            rotate_left
            · (intro w hSw; (try dsimp only at hSw); go_simp; (try with_reducible rfl))
            try simp only [List.getElem_toArray, List.getElem_cons_succ, List.getElem_cons_zero, Act.put, List.setIfInBounds_toArray, List.set_cons_zero, List.set_cons_succ]
            refine wpAnyH_done (by kernel_rfl) ?_ _
            have HO5 := Lib.hid (HO.out.below HD5.out)
            have HB5 := Lib.hid (below_two HB.out HD5.out)
            have HX5 := Lib.hid (HX.out.below HD5.out HX.out.lt)
            have HR5 := Lib.hid (HR.out.below HD5.out)
            rw [← HF.out] at HO5
            go_wp2_with fail
            go_roundw
            case rel => exact ⟨k + 1, v, by omega, rfl, by go_num, HO5, HB5, HX5, HR5⟩
            case measure => simp [intOf]; omega
        · have hkn : n = k := by omega
          subst hkn
          have HFB := Lib.hid (behTo_all (x := x) (show t.length ≤ n by rw [HL.out]; exact Nat.le_refl _))
          rw [HFB.out] at HO
          go_wp2_with fail
          go_ret2
          exact ⟨v, rfl, HO.out.more (Nat.le_succ _), HB.out⟩
end
end Go.Proofs.Ytggnoeeaoligdaa
